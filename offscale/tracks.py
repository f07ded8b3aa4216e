"""Tracks: runs of a working for all operands of a region at once, one for each course."""

from offscale.forms import Form
from offscale.fractions import fraction
from offscale.names import is_name
from offscale.rules import place
from offscale.steps import count_steps


class Track:
    """How far a run has come for the operands of a region that take one course. It never changes.

    Lengths and mantissas are forms in the operands. For each step that stands, but for tries, stood has a
    row: its number, the hairline and the offset behind it, and what is seen there: the decade of a read;
    the sign of the offset behind a slide step, if signs are asked for; otherwise None.
    """

    def __init__(self, region, course, known):
        self.region = region
        self.course = course
        # The mantissas of the operands and of the notes, by their names.
        self.known = known
        self.hairline = Form()
        self.offset = Form()
        self.stood = ()
        # The mantissa that was read last, and the number of the step at which the run goes off.
        self.reading = None
        self.off = None

    def parted(self, rows):
        """Return each integer of the rows with the track of the operands of its region, where it comes up."""
        return [(integer, self._taken_to(region, (*self.course, integer))) for integer, region in rows]

    def standing(self, number, hairline, offset, seen):
        """Return the track behind a step that stands."""
        new = self._taken_to(self.region, self.course)
        new.hairline = hairline
        new.offset = offset
        new.stood = (*self.stood, (number, hairline, offset, seen))
        return new

    def noting(self, number, name, mantissa, decade):
        """Return the track behind a read that stands."""
        new = self.standing(number, self.hairline, self.offset, decade)
        new.known = {**self.known, name: mantissa}
        new.reading = mantissa
        return new

    def going_off(self, number):
        """Return the track of a run that goes off at a step."""
        new = self._taken_to(self.region, self.course)
        new.off = number
        return new

    def giving_up(self, tried):
        """Return the track that is back where this one was ahead of the part that is given up."""
        return self._taken_to(tried.region, tried.course)

    def _taken_to(self, region, course):
        """Return a track like this one, but for its region and its course."""
        new = Track(region, course, self.known)
        new.hairline = self.hairline
        new.offset = self.offset
        new.stood = self.stood
        new.reading = self.reading
        new.off = self.off
        return new


def follow(rule, steps, region, known, signs):
    """Return the tracks of a working for the operands of a region, where known has the mantissas of its own."""
    return _do_steps(rule, signs, Track(region, (), known), 0, steps)


def _do_steps(rule, signs, track, number, steps):
    """Return what becomes of a track in some steps, the first of which has this number."""
    tracks = [track]
    for step in steps:
        tracks = [new for one in tracks for new in _do_step(rule, signs, one, number, step)]
        number += count_steps((step,))
    return tracks


def _do_step(rule, signs, track, number, step):
    """Return what becomes of a track in one step."""
    if track.off is not None:
        return [track]
    if step[0] == "line":
        return _do_line(rule, track, number, step)
    if step[0] == "slide":
        return _do_slide(rule, signs, track, number, step)
    if step[0] == "read":
        return _do_read(rule, track, number, step)
    return _do_try(rule, signs, track, number, step)


def _do_line(rule, track, number, step):
    """Move the hairline over a figure."""
    found = []
    for one, position in _positions(rule, track, step):
        if not rule.is_sliding(step[1]):
            found.append(one.standing(number, position, one.offset, None))
            continue
        hairline = one.offset + position
        for way, new in one.parted(one.region.ways(hairline)):
            found.append(new.standing(number, hairline, new.offset, None) if way == 0 else new.going_off(number))
    return found


def _do_slide(rule, signs, track, number, step):
    """Move the slide so that a figure of it stands under the hairline."""
    found = []
    for one, position in _positions(rule, track, step):
        offset = one.hairline - position
        if not signs:
            found.append(one.standing(number, one.hairline, offset, None))
            continue
        for sign, new in one.parted(one.region.signs(offset)):
            found.append(new.standing(number, new.hairline, offset, sign))
    return found


def _do_read(rule, track, number, step):
    """Read the figure under the hairline."""
    if not rule.is_sliding(step[1]):
        return _note(rule, track, number, step, track.hairline)
    found = []
    position = track.hairline - track.offset
    for way, one in track.parted(track.region.ways(position)):
        found.extend(_note(rule, one, number, step, position) if way == 0 else [one.going_off(number)])
    return found


def _note(rule, track, number, step, position):
    """Note what stands at a position of a scale."""
    _, scale, name = step
    turns, fold = rule.scale(scale)
    length = position * (turns, 1) + Form((), fold)
    rows = track.parted(track.region.floors(length))
    return [one.noting(number, name, length - Form((), (decade, 1)), decade) for decade, one in rows]


def _do_try(rule, signs, track, number, step):
    """Do the first part of a try, and the second one for those operands for which that goes off."""
    _, first, second = step
    behind = number + 1 + count_steps(first)
    found = []
    for one in _do_steps(rule, signs, track, number + 1, first):
        if one.off is None:
            found.append(one)
        else:
            found.extend(_do_steps(rule, signs, track.giving_up(one), behind, second))
    return found


def _positions(rule, track, step):
    """Return where the figure of a step stands on its scale, for each track into which this one splits."""
    _, scale, stretch, figure = step
    if figure == "left":
        return [(track, Form())]
    if figure == "right":
        return [(track, Form((), (1, 1)))]
    if not is_name(figure):
        return [(track, Form((), place(rule, scale, stretch, figure)))]
    turns, fold = rule.scale(scale)
    behind = track.known[figure] - Form((), fold)
    if turns < 0:
        behind = -behind
    share = fraction(1, abs(turns))
    rows = track.parted(track.region.floors(behind))
    return [(one, (behind + Form((), (stretch - floor, 1))) * share) for floor, one in rows]
