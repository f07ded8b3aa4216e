"""Runs of workings at given operands."""

from offscale.errors import BadWorking, Misfit, Missing, NoMantissa
from offscale.forms import Form
from offscale.regions import box
from offscale.rules import is_mantissa
from offscale.steps import misfit, operands_of, working_error
from offscale.tracks import follow


def run(rule, steps, operands, *, signs=False):
    """Return the course and the outcome of the run at the operands."""
    track = track_at(rule, steps, operands, signs)
    if track.off is not None:
        return (track.course, ("off", track.off))
    return (track.course, ("reads", track.reading.constant))


def trail(rule, steps, operands):
    """Yield the number of each step that stands but tries, with the hairline and the offset behind it."""
    track = track_at(rule, steps, operands, False)
    for number, hairline, offset, _ in track.stood:
        yield (number, hairline.constant, offset.constant)


def check_working(rule, steps):
    """Raise the error that tells why steps, which may be anything, are no working that fits the rule."""
    error = working_error(steps)
    if error is not None:
        raise BadWorking(error)
    wrong = misfit(rule, steps)
    if wrong is not None:
        number, word = wrong
        raise Misfit(number, word)


def track_at(rule, steps, operands, signs):
    """Return the only track of a working at given operands; its forms have no names."""
    check_working(rule, steps)
    names = operands_of(steps)
    for name in names:
        if name not in operands:
            raise Missing(name)
    for name in names:
        if not is_mantissa(operands[name]):
            raise NoMantissa(operands[name])
    known = {name: Form((), operands[name]) for name in names}
    return follow(rule, steps, box(()), known, signs)[0]
