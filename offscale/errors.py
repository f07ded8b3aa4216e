"""All errors of the package, with what they tell as attributes.

Python keeps the fields of an error as its message, too, so none is worded here.
"""


class SlideError(ValueError):
    """The base of all errors but the three that tell that a name is not known."""


class NoFraction(SlideError):
    """There is no such fraction."""


class BadForm(SlideError):
    """The parts of a form are wrong."""


class BadRule(SlideError):
    """The scales of a rule are wrong; word tells what is."""

    def __init__(self, word):
        self.word = word


class NoStretch(SlideError):
    """The scale has no stretch of this number."""

    def __init__(self, stretch):
        self.stretch = stretch


class NoMantissa(SlideError):
    """The value is not a mantissa."""

    def __init__(self, value):
        self.value = value


class NoPosition(SlideError):
    """The value is not a position."""

    def __init__(self, value):
        self.value = value


class BadWorking(SlideError):
    """The steps are not a working; error tells where and why."""

    def __init__(self, error):
        self.error = error


class Misfit(SlideError):
    """The step of this number does not fit the rule; word tells why."""

    def __init__(self, number, word):
        self.number = number
        self.word = word


class BadText(SlideError):
    """The text is wrong at the piece of this index."""

    def __init__(self, place):
        self.place = place


class TooMany(SlideError):
    """There are more names than the limit."""

    def __init__(self, limit):
        self.limit = limit


class BadWish(SlideError):
    """The value is not a wish; word tells what is wrong."""

    def __init__(self, word):
        self.word = word


class BadFeatures(SlideError):
    """The features are wrong at this index."""

    def __init__(self, index):
        self.index = index


class BadBook(SlideError):
    """The value is not a book for the features."""


class Off(SlideError):
    """The run goes off at the step of this number."""

    def __init__(self, number):
        self.number = number


class BadName(SlideError):
    """The value is not a name."""

    def __init__(self, name):
        self.name = name


class NotRule(SlideError):
    """The value is not a rule."""


class Unkept(SlideError):
    """The wish of the working of this name would not be kept."""

    def __init__(self, name):
        self.name = name


class Full(SlideError):
    """The desk takes no more deeds."""


class Busy(SlideError):
    """The desk is in the middle of a deed."""


class NothingToUndo(SlideError):
    """No deed is in effect."""


class Missing(LookupError):
    """The name has no operand."""

    def __init__(self, name):
        self.name = name


class NoScale(LookupError):
    """The rule has no scale of this name."""

    def __init__(self, name):
        self.name = name


class NoWorking(LookupError):
    """The desk has no working of this name."""

    def __init__(self, name):
        self.name = name
