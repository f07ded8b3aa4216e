"""Claims: what holds of workings at all operands, or operands that show that it does not."""

from offscale.bounds import MAX_FACTOR, MAX_OPERANDS, MAX_TURNS
from offscale.errors import BadWish, TooMany
from offscale.forms import Form
from offscale.fractions import is_whole
from offscale.names import is_name
from offscale.regions import box
from offscale.rules import is_mantissa
from offscale.runs import check_working
from offscale.sheets import tracks_in
from offscale.steps import operands_of


def wish_error(value):
    """Return None if value, which may be anything, is a wish; otherwise the word for what is wrong."""
    if not isinstance(value, tuple) or len(value) != 3:
        return "wish"
    times, factors, constant = value
    if not is_whole(times) or not 1 <= times <= MAX_TURNS:
        return "times"
    if not _are_factors(factors):
        return "factors"
    return None if is_mantissa(constant) else "constant"


def runs_off(rule, steps):
    """Return operands at which the run goes off, and the step at which it does; None if it reads at all."""
    check_working(rule, steps)
    for track in tracks_in(rule, steps, box(operands_of(steps)), False):
        if track.off is not None:
            return (track.region.middle(), track.off)
    return None


def alike(rule, one, other):
    """Return operands at which two workings do unlike, None if there are none."""
    check_working(rule, one)
    check_working(rule, other)
    region = box(joint_names(operands_of(one), operands_of(other)))
    for first in tracks_in(rule, one, region, False):
        for second in tracks_in(rule, other, first.region, False):
            operands = _where_unlike(first, second)
            if operands is not None:
                return operands
    return None


def meets(rule, steps, wish):
    """Return operands at which the run reads what does not meet the wish, None if there are none."""
    check_working(rule, steps)
    check_wish(wish)
    region = box(joint_names(operands_of(steps), names_of(wish)))
    for track in tracks_in(rule, steps, region, False):
        if track.off is None:
            operands = track.region.where_no_integer(track.reading * (wish[0], 1) - sum_of(wish))
            if operands is not None:
                return operands
    return None


def check_wish(value):
    """Raise the error that tells why value, which may be anything, is no wish."""
    word = wish_error(value)
    if word is not None:
        raise BadWish(word)


def names_of(wish):
    """Return the names of a wish, ascending."""
    return tuple([name for name, _ in wish[1]])


def joint_names(names, others):
    """Return the names that are among these or those, ascending; raise TooMany if there are too many."""
    joint = tuple(sorted({name for name in (*names, *others)}))
    if len(joint) > MAX_OPERANDS:
        raise TooMany(MAX_OPERANDS)
    return joint


def sum_of(wish):
    """Return the sum of a wish, a form in the operands."""
    _, factors, constant = wish
    return Form(tuple([(name, (factor, 1)) for name, factor in factors]), constant)


def _are_factors(value):
    """Tell whether value is a tuple of names with factors, ascending."""
    if not isinstance(value, tuple) or not all([_is_factor(item) for item in value]):
        return False
    names = [name for name, _ in value]
    return names == sorted({name for name in names})


def _is_factor(value):
    """Tell whether value is a pair of a name and a factor."""
    if not isinstance(value, tuple) or len(value) != 2:
        return False
    name, factor = value
    return is_name(name) and is_whole(factor) and factor != 0 and abs(factor) <= MAX_FACTOR


def _where_unlike(first, second):
    """Return operands at which two tracks do unlike, all of them operands of the second one; None if none are."""
    if first.off is not None and second.off is not None:
        return None
    if first.off is not None or second.off is not None:
        return second.region.middle()
    # Mantissas are from 0 to below 1, so two of them differ by an integer only if they are the same.
    return second.region.where_no_integer(first.reading - second.reading)
