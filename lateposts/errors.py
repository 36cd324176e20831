"""The errors that the program raises.

The messages never show a field: a field may hold any value, also an integer with
more digits than Python turns into a string.
"""


class PostError(ValueError):
    """The base of all errors of the program but NoPlace."""


class BadReceiver(PostError):
    """A value is no receiver; error is what receiver_error tells of it."""

    def __init__(self, error):
        super().__init__("the value is no receiver")
        self.error = error


class BadNumber(PostError):
    """A value stands where an integer is asked for."""

    def __init__(self, value):
        super().__init__("the value is no integer")
        self.value = value


class BadRow(PostError):
    """A value is no list or tuple of numbers that is short enough."""


class BadStep(PostError):
    """A value stands where a step, an integer, is asked for."""

    def __init__(self, value):
        super().__init__("the value is no step")
        self.value = value


class BadSize(PostError):
    """A value is no size that a window may have."""

    def __init__(self, value):
        super().__init__("the value is no size of a window")
        self.value = value


class BadCount(PostError):
    """A value is no count, or none within its bounds."""

    def __init__(self, value):
        super().__init__("the value is no count within its bounds")
        self.value = value


class BadText(PostError):
    """A value is no text of a receiver or a log; index tells the part that is wrong."""

    def __init__(self, index):
        super().__init__("the value is not written as told")
        self.index = index


class NoFit(PostError):
    """A log fits a receiver from no number."""


class TooManyDeeds(PostError):
    """More deeds would be in effect than an inbox takes."""


class NothingToUndo(PostError):
    """No deed is in effect."""


class Busy(PostError):
    """An inbox is calling a function that was passed to hear_all."""


class Halted(PostError):
    """An inbox is halted."""


class NoPlace(LookupError):
    """A value is no index of a place."""

    def __init__(self, value):
        super().__init__("the value is no index of a place")
        self.value = value
