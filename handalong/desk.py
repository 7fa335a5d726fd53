"""A desk that does commands and answers with texts."""

from handalong.errors import InvalidCommand
from handalong.living import Living
from handalong.means import greatest_mean, least_mean
from handalong.policies import Policy
from handalong.texts import told_number

MOST_DIGITS = 6

# How many numbers stand behind the first word of the commands that have so many.
LENGTHS = {"views": 0, "add": 1, "turn": 2, "link": 2, "cut": 2, "undo": 0, "wrong": 0, "network": 0}

SCORED = ("least", "greatest", "shows", "total")


class Desk:
    """A policy and a living network, None until a command tells a policy."""

    def __init__(self):
        self.policy = None
        self.living = None

    def __eq__(self, other):
        # It changes, so it equals nothing but itself.
        return self is other

    def say(self, command):
        """Does a command and returns a text."""
        head, values = told_command(command)
        if head == "policy":
            policy = Policy(values[0], values[1:])
            self.policy = policy
            self.living = Living(policy)
            return "ok"
        if self.policy is None:
            raise InvalidCommand()
        if head in SCORED:
            return scored(self.policy, self.living, head, values)
        if head in ("views", "wrong", "network"):
            return shown(self.policy, self.living, head)
        return done(self.living, head, values)


def told_command(command):
    """The first word of any value, a command, and what the others tell."""
    if not isinstance(command, str) or "\n" in command:
        raise InvalidCommand()
    words = command.split(" ")
    head, rest = words[0], words[1:]
    values = [None]
    if head == "policy" and len(rest) > 1:
        values = [short_number(rest[0])] + [told_view(word) for word in rest[1:]]
    elif head in SCORED and len(rest) > 0:
        values = [told_score(word) for word in rest]
    elif LENGTHS.get(head, -1) == len(rest):
        values = [short_number(word) for word in rest]
    if None in values:
        raise InvalidCommand()
    return (head, values)


def short_number(word):
    """The number that a word of a few digits tells, or None."""
    return told_number(word) if len(word) <= MOST_DIGITS else None


def told_score(word):
    """The score that a word tells, or None."""
    if not word.startswith("-"):
        return short_number(word)
    number = short_number(word[1:])
    return None if number is None or number == 0 else -number


def told_view(word):
    """The mode and the neighbours that a view word tells, or None."""
    if word[1:2] != ":":
        return None
    digits = [told_number(letter) for letter in word[:1] + word[2:]]
    if None in digits or digits[1:] != sorted(digits[1:]):
        return None
    return (digits[0], tuple(digits[1:]))


def view_word(view):
    """The word that tells a view."""
    return f"{view[0]}:" + "".join([str(mode) for mode in view[1]])


def fraction_text(fraction):
    """The text of a fraction."""
    top, bottom = fraction
    return f"{top}" if bottom == 1 else f"{top}/{bottom}"


def scored(policy, living, head, scores):
    """The answer to a command with scores."""
    if head == "total":
        return str(living.total(scores))
    answer = greatest_mean(policy, scores) if head == "greatest" else least_mean(policy, scores)
    if answer[0] == "none":
        return "none"
    if head == "shows":
        return ", ".join([f"{count} {view_word(view)}" for view, count in answer[2]])
    return fraction_text(answer[1])


def shown(policy, living, head):
    """The answer to a command that only asks."""
    if head == "views":
        return " ".join([view_word(view) for view in policy.views])
    if head == "wrong":
        return " ".join([str(site) for site in living.wrong_sites()]) if living.wrong_sites() else "none"
    words = [str(mode) for mode in living.modes] + ["|"] + [f"{one}-{other}" for one, other in living.links]
    return " ".join(words)


def done(living, head, values):
    """Does a deed, and the answer to it."""
    if head == "add":
        return str(living.add(values[0]))
    if head == "undo":
        return "ok" if living.undo() else "nothing"
    if head == "turn":
        living.turn(values[0], values[1])
    elif head == "link":
        living.link(values[0], values[1])
    else:
        living.cut(values[0], values[1])
    return "ok"
