"""Sheets: all courses that the runs of a working take, and at which operands."""

from offscale.forms import Form
from offscale.regions import box
from offscale.runs import check_working
from offscale.steps import operands_of
from offscale.systems import holds
from offscale.tracks import follow


def sheet(rule, steps, *, signs=False):
    """Return the cells of a working, in ascending order of their courses."""
    check_working(rule, steps)
    tracks = tracks_in(rule, steps, box(operands_of(steps)), signs)
    return tuple(sorted([_cell(track) for track in tracks], key=lambda cell: cell.course))


class Cell:
    """The operands of a working that take one course. Only read its attributes."""

    def __init__(self, course, outcome, conditions, operands):
        self.course = course
        self.outcome = outcome
        self.conditions = conditions
        self._operands = operands

    @property
    def point(self):
        """Operands of the cell, in a new dict."""
        return dict(self._operands)

    def __contains__(self, operands):
        return holds(self.conditions, operands)

    def __eq__(self, other):
        if not isinstance(other, Cell) or self.course != other.course or self.outcome != other.outcome:
            return False
        return self.conditions == other.conditions and self._operands == other._operands


def tracks_in(rule, steps, region, signs):
    """Return the tracks of a working that fits the rule, for the operands of a region that has all its names."""
    known = {name: Form(((name, (1, 1)),)) for name in operands_of(steps)}
    return follow(rule, steps, region, known, signs)


def _cell(track):
    """Return the cell of a track."""
    outcome = ("reads", track.reading) if track.off is None else ("off", track.off)
    return Cell(track.course, outcome, track.region.conditions, track.region.middle())
