"""Slide rules: their scales, and where figures stand on them."""

from offscale.bounds import MAX_SCALES, MAX_TURNS
from offscale.errors import BadRule, NoMantissa, NoPosition, NoScale, NoStretch
from offscale.fractions import floor_of, is_fraction, is_whole, minus, over, part_of, plus, times
from offscale.names import is_scale_name

COMMON_BODY = (("A", 2, (0, 1)), ("D", 1, (0, 1)), ("K", 3, (0, 1)))
COMMON_SLIDE = (("B", 2, (0, 1)), ("C", 1, (0, 1)), ("CI", -1, (0, 1)))


class Rule:
    """The scales of a body and of its slide. It never changes."""

    def __init__(self, body, slide):
        if not _is_row(body) or not _is_row(slide):
            raise BadRule("scales")
        both = (*body, *slide)
        if not all([_is_scale(item) for item in both]):
            raise BadRule("scale")
        if len({item[0] for item in both}) < len(both):
            raise BadRule("name")
        self._body = body
        self._slide = slide

    @classmethod
    def common(cls):
        """Return the rule with the scales that most slide rules have."""
        return cls(COMMON_BODY, COMMON_SLIDE)

    @property
    def body(self):
        """The scales of the body."""
        return self._body

    @property
    def slide(self):
        """The scales of the slide."""
        return self._slide

    def scale(self, name):
        """Return the turns and the fold of a scale."""
        for own, turns, fold in (*self._body, *self._slide):
            if own == name:
                return (turns, fold)
        raise NoScale(name)

    def is_sliding(self, name):
        """Tell whether a scale is on the slide."""
        if name not in self:
            raise NoScale(name)
        return name in [item[0] for item in self._slide]

    def __contains__(self, name):
        return name in [item[0] for item in (*self._body, *self._slide)]

    def __eq__(self, other):
        return isinstance(other, Rule) and self._body == other._body and self._slide == other._slide


def is_mantissa(value):
    """Tell whether value, which may be anything, is a fraction from 0 to below 1."""
    return is_fraction(value) and 0 <= value[0] < value[1]


def is_position(value):
    """Tell whether value, which may be anything, is a fraction from 0 to 1."""
    return is_fraction(value) and 0 <= value[0] <= value[1]


def count_stretches(rule, name):
    """Return how many stretches a scale has."""
    turns = rule.scale(name)[0]
    return abs(turns)


def place(rule, name, stretch, mantissa):
    """Return the position at which a mantissa stands on a stretch of a scale."""
    turns, fold = rule.scale(name)
    if not is_whole(stretch) or not 0 <= stretch < abs(turns):
        raise NoStretch(stretch)
    if not is_mantissa(mantissa):
        raise NoMantissa(mantissa)
    # How far the figure is behind the left end of its stretch, which is one turn long.
    behind = part_of(minus(mantissa, fold) if turns > 0 else minus(fold, mantissa))
    return over(plus((stretch, 1), behind), (abs(turns), 1))


def figure(rule, name, position):
    """Return the decade and the mantissa of the figure at a position of a scale."""
    turns, fold = rule.scale(name)
    if not is_position(position):
        raise NoPosition(position)
    length = plus(times((turns, 1), position), fold)
    return (floor_of(length), part_of(length))


def _is_row(value):
    """Tell whether value is a tuple of as many items as a row of scales may have."""
    return isinstance(value, tuple) and len(value) <= MAX_SCALES


def _is_scale(value):
    """Tell whether value is a tuple of a name, turns and a fold."""
    if not isinstance(value, tuple) or len(value) != 3:
        return False
    name, turns, fold = value
    return is_scale_name(name) and _are_turns(turns) and is_mantissa(fold)


def _are_turns(value):
    """Tell whether value is a number of turns that a scale may have."""
    return is_whole(value) and value != 0 and abs(value) <= MAX_TURNS
