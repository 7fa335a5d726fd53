"""Sheets: a question, and what answers it, on one page."""

from handalong.basics import is_sequence, is_tuple_of
from handalong.between import is_with_evidence, with_mean
from handalong.clocks import clock_evidence, is_clock_evidence
from handalong.errors import InvalidQuestion, NetError, Refused
from handalong.forbidding import ban_evidence, is_ban_evidence
from handalong.forced import force_evidence, is_force_evidence
from handalong.kept import is_nought_evidence, nought_evidence
from handalong.live import is_live_evidence, live_evidence
from handalong.means import greatest_mean, is_greatest_evidence, is_least_evidence, least_mean
from handalong.polygons import polygon, polygon_holds
from handalong.ratios import is_fraction
from handalong.shares import ratio_holds, worst_ratio
from handalong.sizes import is_size_evidence, size_evidence
from handalong.tight import is_tight_evidence, tight_views

# How many things a question of each kind has.
LENGTHS = {"least": 1, "greatest": 1, "tight": 1, "with": 2, "live": 0, "force": 2, "nought": 1, "clock": 2, "size": 0,
           "ban": 3, "polygon": 2, "ratio": 2}

# The place of the fraction in the questions that have one.
FRACTIONS = {"with": 1, "ban": 1}


def is_kind(value):
    """Whether any value is a kind of sheets."""
    return isinstance(value, str) and value in LENGTHS


def is_question(kind, value):
    """Whether any value is a question for a kind."""
    if not is_tuple_of(value, LENGTHS[kind]):
        return False
    return kind not in FRACTIONS or is_fraction(value[FRACTIONS[kind]])


def answer(policy, kind, question):
    """What answers a question."""
    if kind == "live":
        return live_evidence(policy)
    if kind == "size":
        return size_evidence(policy)
    if kind == "least":
        return least_mean(policy, question[0])
    if kind == "greatest":
        return greatest_mean(policy, question[0])
    if kind == "tight":
        return tight_views(policy, question[0])
    if kind == "nought":
        return nought_evidence(policy, question[0])
    if kind == "with":
        return with_mean(policy, question[0], question[1])
    if kind == "force":
        return force_evidence(policy, question[0], question[1])
    if kind == "clock":
        return clock_evidence(policy, question[0], question[1])
    if kind == "polygon":
        return polygon(policy, question[0], question[1])
    if kind == "ratio":
        return worst_ratio(policy, question[0], question[1])
    return ban_evidence(policy, question[0], question[1], question[2])


def answers(policy, kind, question, value):
    """Whether any value answers a question."""
    if kind == "live":
        return is_live_evidence(policy, value)
    if kind == "size":
        return is_size_evidence(policy, value)
    if kind == "least":
        return is_least_evidence(policy, question[0], value)
    if kind == "greatest":
        return is_greatest_evidence(policy, question[0], value)
    if kind == "tight":
        return is_tight_evidence(policy, question[0], value)
    if kind == "nought":
        return is_nought_evidence(policy, question[0], value)
    if kind == "with":
        return is_with_evidence(policy, question[0], question[1], value)
    if kind == "force":
        return is_force_evidence(policy, question[0], question[1], value)
    if kind == "clock":
        return is_clock_evidence(policy, question[0], question[1], value)
    if kind == "polygon":
        return polygon_holds(policy, question[0], question[1], value)
    if kind == "ratio":
        return ratio_holds(policy, question[0], question[1], value)
    return is_ban_evidence(policy, question[0], question[1], question[2], value)


def sheet_holds(policy, value):
    """Whether any value is a sheet that holds."""
    if not is_tuple_of(value, 3) or not is_kind(value[0]) or not is_question(value[0], value[1]):
        return False
    try:
        return answers(policy, value[0], value[1], value[2])
    except NetError:
        return False


def sheet(policy, kind, question):
    """A sheet with a question and what answers it."""
    if not is_kind(kind):
        raise Refused(0)
    if not is_question(kind, question):
        raise Refused(1)
    told = answer(policy, kind, question)
    return (kind, copied(question), told)


def copied(value):
    """A value with each of its lists copied."""
    if isinstance(value, tuple):
        return tuple([copied(entry) for entry in value])
    return [copied(entry) for entry in value] if isinstance(value, list) else value


def wrong_sheets(policy, values):
    """The indexes of those of any value, a sequence, that are no sheets that hold."""
    if not is_sequence(values):
        raise InvalidQuestion(0)
    return tuple([at for at, value in enumerate(values) if not sheet_holds(policy, value)])
