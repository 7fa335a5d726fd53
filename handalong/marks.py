"""Networks whose links bear marks, told as networks in which a site stands in each link."""

from handalong.balancing import collection_of, least_balanced
from handalong.basics import is_below, is_integer, is_sequence, is_tuple_of
from handalong.collected import collection_total
from handalong.covers import turned_over
from handalong.errors import InvalidNetwork, InvalidPolicy, InvalidQuestion, InvalidRule, InvalidView, NotObeyed
from handalong.means import least_mean, shows_none
from handalong.networks import Network, breaches, can_link, checked_modes
from handalong.policies import Policy, checked_integers
from handalong.proofs import is_balanced, is_told
from handalong.ratios import is_fraction, made
from handalong.shares import all_left_of
from handalong.views import MOST_MODES, MOST_NEIGHBOURS, is_mode


class Marked:
    """A mode for each site, and the links as ascending triples (i, j, mark), i < j."""

    def __init__(self, modes, links):
        self.modes = checked_modes(modes)
        self.links = checked_links(len(self.modes), links)
        self._rows = rows_of(self.modes, self.links)

    def __eq__(self, other):
        return isinstance(other, Marked) and self.modes == other.modes and self.links == other.links

    def row(self, at):
        """The mode of a site, and the marks of its links in order."""
        if not is_below(at, len(self.modes)):
            raise InvalidQuestion(0)
        return self._rows[at]


class MarkPolicy:
    """The modes, the marks, the allowed rows and the allowed ties, each ascending."""

    def __init__(self, modes, marks, rows, ties):
        if not is_integer(modes) or not is_integer(marks) or min(modes, marks) < 1 or modes + marks > MOST_MODES:
            raise InvalidPolicy(0)
        self.modes = modes
        self.marks = marks
        self.rows = checked_rows(modes, marks, rows)
        self.ties = checked_ties(modes, marks, ties)

    def __eq__(self, other):
        if not isinstance(other, MarkPolicy) or self.modes != other.modes or self.marks != other.marks:
            return False
        return self.rows == other.rows and self.ties == other.ties


def checked_links(many, links):
    """Any value as the ascending triples of the marked links of so many sites."""
    if not is_sequence(links):
        raise InvalidNetwork(many)
    near = [[] for _ in range(many)]
    found = []
    for at, link in enumerate(links):
        if not is_sequence(link) or len(link) != 3 or not is_mode(link[2]) or not can_link(near, link[:2]):
            raise InvalidNetwork(many + at)
        one, other, mark = link
        near[one].append(other)
        near[other].append(one)
        found.append((min(one, other), max(one, other), mark))
    return tuple(sorted(found))


def rows_of(modes, links):
    """The rows of all sites with these modes and marked links."""
    marks = [[] for _ in modes]
    for one, other, mark in links:
        marks[one].append(mark)
        marks[other].append(mark)
    return tuple([(mode, tuple(sorted(row))) for mode, row in zip(modes, marks)])


def is_mark_row(value, modes, marks):
    """Whether any value is a pair of a mode and a sequence of the marks of its links."""
    if not is_tuple_of(value, 2) or not is_below(value[0], modes) or not is_sequence(value[1]):
        return False
    return len(value[1]) <= MOST_NEIGHBOURS and all([is_below(mark, marks) for mark in value[1]])


def checked_rows(modes, marks, rows):
    """Any value as the ascending tuple of unlike rows."""
    if not is_sequence(rows):
        raise InvalidView(0)
    known = {}
    for at, row in enumerate(rows):
        if not is_mark_row(row, modes, marks):
            raise InvalidView(at)
        kept = (row[0], tuple(sorted(row[1])))
        if kept in known:
            raise InvalidView(at)
        known[kept] = True
    return tuple(sorted(known))


def is_tie(value, modes, marks):
    """Whether any value is a triple of a mark and two modes."""
    if not is_tuple_of(value, 3) or not is_below(value[0], marks):
        return False
    return is_below(value[1], modes) and is_below(value[2], modes)


def checked_ties(modes, marks, ties):
    """Any value as the ascending tuple of unlike ties."""
    if not is_sequence(ties):
        raise InvalidRule(0)
    known = {}
    for at, tie in enumerate(ties):
        if not is_tie(tie, modes, marks):
            raise InvalidRule(at)
        kept = tie_of(tie[0], tie[1], tie[2])
        if kept in known:
            raise InvalidRule(at)
        known[kept] = True
    return tuple(sorted(known))


def tie_of(mark, one, other):
    """The tie of a mark and two modes in any order."""
    return (mark, min(one, other), max(one, other))


def unmarked(marked):
    """The network without the marks."""
    return Network(marked.modes, [(one, other) for one, other, _ in marked.links])


def breaks(policy, marked):
    """The pair of the sites whose rows, and of the indexes of the links whose ties are not allowed."""
    sites = [at for at in range(len(marked.modes)) if marked.row(at) not in policy.rows]
    ties = [tie_of(mark, marked.modes[one], marked.modes[other]) for one, other, mark in marked.links]
    return (tuple(sites), tuple([at for at, tie in enumerate(ties) if tie not in policy.ties]))


def split(marked, modes):
    """The network with a site in each link, in a mode that tells its mark."""
    greatest = max([mark for _, _, mark in marked.links], default=0)
    if not is_mode(modes) or modes <= max(marked.modes) or modes + greatest >= MOST_MODES:
        raise InvalidQuestion(1)
    many = len(marked.modes)
    links = []
    for at, (one, other, _) in enumerate(marked.links):
        links.extend([(one, many + at), (other, many + at)])
    return Network(marked.modes + tuple([modes + mark for _, _, mark in marked.links]), links)


def translated(policy):
    """The policy that a split network obeys if the marked one obeys a mark policy."""
    first = policy.modes
    views = [(mode, tuple([first + mark for mark in marks])) for mode, marks in policy.rows]
    return Policy(first + policy.marks, views + [(first + mark, (one, other)) for mark, one, other in policy.ties])


def unsplit(network, policy):
    """The marked network of which a network that obeys the translated policy is the split one, or None."""
    wrong = breaches(translated(policy), network)
    if wrong:
        raise NotObeyed(wrong[0])
    kept = [site for site, mode in enumerate(network.modes) if mode < policy.modes]
    spots = {site: at for at, site in enumerate(kept)}
    links = {}
    for site, mode in enumerate(network.modes):
        if mode >= policy.modes:
            one, other = network.neighbours(site)
            if (one, other) in links:
                return None
            links[(one, other)] = (spots[one], spots[other], mode - policy.modes)
    return Marked([network.modes[site] for site in kept], list(links.values()))


def least_marked(policy, scores):
    """The least mean over the sites of marked networks, with a collection that has it and a transfer that proves it."""
    worth = checked_integers(scores, len(policy.rows))
    whole = translated(policy)
    nothing = [0 for _ in policy.ties]
    amounts, prices = least_balanced(whole.modes, whole.views, [*worth, *nothing], [1 for _ in worth] + nothing)
    if amounts is None:
        return least_mean(whole, [0 for _ in whole.views])
    return ("mean", prices[-1], collection_of(whole, amounts), prices[:-1])


def is_marked_evidence(policy, scores, value):
    """Whether any value is a right answer of `least_marked`."""
    worth = checked_integers(scores, len(policy.rows))
    whole = translated(policy)
    if is_told(value, "none", 2):
        return shows_none(whole, value)
    if not is_told(value, "mean", 4) or not is_fraction(value[1]) or not is_balanced(whole, value[2]):
        return False
    _, (top, bottom), collection, transfer = value
    over = [score * bottom - top for score in worth] + [0 for _ in policy.ties]
    if collection_total(whole, over, collection) != 0:
        return False
    return all_left_of(whole, [made(number, bottom) for number in over], transfer, (0, 1))


def marked_cover(network):
    """A marked network over another one, with each of the marks 0 .. d - 1 at each site, and the sites it is over."""
    degree = len(network.neighbours(0))
    many = len(network.modes)
    if any([len(network.neighbours(site)) != degree for site in range(many)]):
        raise InvalidQuestion(0)
    # Two copies, linked crosswise, have no ring of odd length, so as many marks as links at each site do.
    copies = 1 if degree < 2 else 2
    whole = turned_over(network, copies, [list(reversed(range(copies))) for _ in network.links])
    sites = tuple([site for site in range(many) for _ in range(copies)])
    return (Marked(whole.modes, marked_links(whole, degree)), sites)


def marked_links(network, many):
    """The links of a network without rings of odd length, with so many marks, unlike ones at each site."""
    near = [{} for _ in network.modes]
    for one, other in network.links:
        first = free_mark(near[one], many)
        second = free_mark(near[other], many)
        if first != second:
            swap_along(near, other, first, second)
        near[one][first] = other
        near[other][first] = one
    return [(one, other, mark) for one, row in enumerate(near) for mark, other in row.items() if one < other]


def free_mark(row, many):
    """The first mark that a site does not have yet."""
    return [mark for mark in range(many) if mark not in row][0]


def swap_along(near, site, one, other):
    """Exchanges two marks on all links along which they lead, by turns, from a site that has not the second one."""
    path = [site]
    mark, behind = one, other
    while mark in near[path[-1]]:
        path.append(near[path[-1]][mark])
        mark, behind = behind, mark
    swap = {one: other, other: one}
    for place in path:
        row = near[place]
        near[place] = {swap.get(known, known): to for known, to in row.items()}
