"""The polygon of the pairs of means that networks have for two scores."""

from handalong.balancing import collection_of
from handalong.basics import is_tuple_of
from handalong.hulls import facing, falling_corners, mixed, site_columns, site_goal, weighed_point
from handalong.margins import costs_above
from handalong.means import has_mean, known_least, least_mean
from handalong.policies import checked_scores
from handalong.proofs import all_left
from handalong.ratios import compared, is_fraction, times
from handalong.simplex import least_cost

AXES = ((1, 0), (0, 1), (-1, 0), (0, -1))


def checked_pair(policy, first, second):
    """Any two values as scores of a policy that some network obeys."""
    one = checked_scores(policy, first)
    two = checked_scores(policy, second)
    known_least(policy, one)
    return (one, two)


def corners(policy, first, second):
    """The corners of the polygon, the least one first, the others counterclockwise."""
    firsts, seconds = checked_pair(policy, first, second)
    columns = site_columns(policy, ())
    goal = site_goal(policy, ())
    found = []
    for quarter in range(len(AXES)):
        for point in falling_corners(columns, goal, firsts, seconds):
            turned = turned_back(point, quarter)
            if turned not in found:
                found.append(turned)
        # By a quarter turn: what was lowest is leftmost, what was rightmost is lowest.
        firsts, seconds = (seconds, [-score for score in firsts])
    return tuple(found)


def turned_back(point, quarter):
    """The point before so many quarter turns."""
    x, y = point
    for _ in range(quarter):
        x, y = (times((-1, 1), y), x)
    return (x, y)


def directions(points):
    """The pairs (u, v) that face inward from each edge of a polygon with these corners, and from the axes."""
    if len(points) == 1:
        return AXES
    return tuple([facing(point, other) for point, other in zip(points, points[1:] + points[:1])]) + AXES


def least_at(points, u, v):
    """The least u x + v y at a corner."""
    least = weighed_point(points[0], u, v)
    for point in points:
        value = weighed_point(point, u, v)
        least = value if compared(value, least) < 0 else least
    return least


def polygon(policy, first, second):
    """The corners, collections at these, and transfers that prove that no network is beyond an edge."""
    one, two = checked_pair(policy, first, second)
    points = corners(policy, one, two)
    collections = [collection_at(policy, one, two, point) for point in points]
    transfers = [least_mean(policy, mixed(one, two, u, v))[3] for u, v in directions(points)]
    return (points, tuple(collections), tuple(transfers))


def polygon_holds(policy, first, second, paper):
    """Whether any value is a right answer of `polygon`."""
    one, two = checked_pair(policy, first, second)
    if not is_tuple_of(paper, 3):
        return False
    points, collections, transfers = paper
    if not isinstance(points, tuple) or not all([is_point(point) for point in points]):
        return False
    if points != corners(policy, one, two) or not is_tuple_of(collections, len(points)):
        return False
    if not all([is_at(policy, one, two, lot, point) for lot, point in zip(collections, points)]):
        return False
    pairs = directions(points)
    if not is_tuple_of(transfers, len(pairs)):
        return False
    proven = [all_left(policy, mixed(one, two, u, v), transfer, least_at(points, u, v))
              for transfer, (u, v) in zip(transfers, pairs)]
    return all(proven)


def is_point(value):
    """Whether any value is a pair of fractions."""
    return is_tuple_of(value, 2) and is_fraction(value[0]) and is_fraction(value[1])


def is_at(policy, one, two, value, point):
    """Whether any value is a balanced collection of allowed views with a point."""
    return has_mean(policy, one, value, point[0]) and has_mean(policy, two, value, point[1])


def outside(policy, first, second, point):
    """None if a point is that of some network, else the first (u, v) that proves that it is not."""
    points = corners(policy, first, second)
    for u, v in directions(points):
        if compared(weighed_point(point, u, v), least_at(points, u, v)) < 0:
            return (u, v)
    return None


def some_at(policy, first, second, point):
    """Some collection with a point, None if no network has it."""
    one, two = checked_pair(policy, first, second)
    return collection_at(policy, one, two, point)


def collection_at(policy, one, two, point):
    """Some collection with a point for checked scores, None if no network has it."""
    sides = (costs_above(one, point[0]), costs_above(two, point[1]))
    amounts, _ = least_cost(site_columns(policy, sides), [0 for _ in one], site_goal(policy, sides))
    return None if amounts is None else collection_of(policy, amounts)


def border(policy, first, second, *, value=(0, 1)):
    """The least and the greatest mean of the second score where the first one has a mean, or None."""
    one, two = checked_pair(policy, first, second)
    sides = (costs_above(one, value),)
    columns = site_columns(policy, sides)
    goal = site_goal(policy, sides)
    amounts, low = least_cost(columns, two, goal)
    if amounts is None:
        return None
    _, high = least_cost(columns, [-score for score in two], goal)
    return (low[-1], times((-1, 1), high[-1]))
