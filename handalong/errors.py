"""The errors of this package."""


class NetError(ValueError):
    """What all errors of this package are."""


class InvalidPolicy(NetError):
    """What was passed is no policy."""

    def __init__(self, at):
        self.at = at


class InvalidNetwork(NetError):
    """What was passed is no network."""

    def __init__(self, at):
        self.at = at


class InvalidView(NetError):
    """A view is none, or is not one that may stand there."""

    def __init__(self, at):
        self.at = at


class InvalidScore(NetError):
    """What was passed are no scores."""

    def __init__(self, at):
        self.at = at


class InvalidCollection(NetError):
    """What was passed is no collection."""

    def __init__(self, at):
        self.at = at


class InvalidTransfer(NetError):
    """What was passed is no transfer."""

    def __init__(self, at):
        self.at = at


class InvalidRule(NetError):
    """What was passed is no rule."""

    def __init__(self, at):
        self.at = at


class InvalidText(NetError):
    """A line does not tell what it should."""

    def __init__(self, at):
        self.at = at


class InvalidQuestion(NetError):
    """An argument is none that can be asked about."""

    def __init__(self, at):
        self.at = at


class NotObeyed(NetError):
    """A site, or a view of a collection, is not allowed."""

    def __init__(self, at):
        self.at = at


class Refused(NetError):
    """There is nothing such as was asked for."""

    def __init__(self, at):
        self.at = at


class NoNetwork(NetError):
    """No network obeys the policy."""

    def __init__(self):
        """Takes nothing, so that nothing can be told by mistake."""


class InvalidCommand(NetError):
    """What was said is no command."""

    def __init__(self):
        """Takes nothing, so that nothing can be told by mistake."""
