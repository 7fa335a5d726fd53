"""Policies and networks as texts, and texts read again."""

from handalong.errors import InvalidNetwork, InvalidPolicy, InvalidText, InvalidView
from handalong.networks import Network
from handalong.policies import Policy
from handalong.views import made_view, are_neighbours, is_mode

# No mode and no site has a number as long, and int() itself refuses very long ones.
MOST_DIGITS = 9


def policy_text(policy):
    """The text of a policy."""
    lines = [f"modes {policy.modes}"]
    lines.extend([row_text([mode, ":", *neighbours]) for mode, neighbours in policy.views])
    return "\n".join(lines)


def network_text(network):
    """The text of a network."""
    lines = [row_text(["sites", *network.modes])]
    lines.extend([row_text(["link", *link]) for link in network.links])
    return "\n".join(lines)


def row_text(words):
    """A line of words and numbers."""
    return " ".join([str(word) for word in words])


def read_policy(text):
    """The policy that any value is the text of."""
    lines = text_lines(text)
    head = told_numbers("modes", lines[0].split(" "))
    if head is None or len(head) != 1:
        raise InvalidText(0)
    try:
        return Policy(head[0], [told_view(line.split(" ")) for line in lines[1:]])
    except InvalidPolicy:
        raise InvalidText(0)
    except InvalidView as error:
        raise InvalidText(error.at + 1)


def read_network(text):
    """The network that any value is the text of."""
    lines = text_lines(text)
    modes = told_numbers("sites", lines[0].split(" "))
    if not modes:
        raise InvalidText(0)
    try:
        return Network(modes, [told_numbers("link", line.split(" ")) for line in lines[1:]])
    except InvalidNetwork as error:
        # All modes stand in the first line, each link in one of its own behind it.
        raise InvalidText(max(0, error.at - len(modes) + 1))


def text_lines(text):
    """The lines of any value that is a string."""
    if not isinstance(text, str):
        raise InvalidText(0)
    return text.split("\n")


def told_number(word):
    """The number that a word tells, or None."""
    if word == "" or len(word) > MOST_DIGITS or not all([letter in "0123456789" for letter in word]):
        return None
    return None if word[0] == "0" and word != "0" else int(word)


def told_numbers(head, words):
    """The numbers that words tell behind a first word, or None."""
    numbers = [told_number(word) for word in words[1:]]
    return None if words[0] != head or None in numbers else numbers


def told_view(words):
    """The view that words tell, or None."""
    mode = told_number(words[0])
    neighbours = told_numbers(":", words[1:]) if len(words) > 1 else None
    if not is_mode(mode) or not are_neighbours(neighbours):
        return None
    return made_view(mode, neighbours)
