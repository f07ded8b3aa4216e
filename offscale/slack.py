"""Slack: how far small faults of setting may change a reading."""

from offscale.fractions import compare, fraction, plus, times, total
from offscale.regions import box
from offscale.runs import check_working, track_at
from offscale.sheets import tracks_in
from offscale.steps import all_steps, operands_of


def slack(rule, steps, operands):
    """Return the slack of the run at operands, None if it goes off."""
    track = track_at(rule, steps, operands, False)
    return None if track.off is not None else _slack_of(rule, steps, track)


def widest(rule, steps):
    """Return the greatest slack that a run of the working has, and operands with it; None if no run reads."""
    check_working(rule, steps)
    found = None
    for track in tracks_in(rule, steps, box(operands_of(steps)), False):
        if track.off is None:
            one = _slack_of(rule, steps, track)
            if found is None or compare(one, found[0]) > 0:
                found = (one, track.region.middle())
    return found


def _slack_of(rule, steps, track):
    """Return the slack of the runs of a track that reads."""
    # Faults are dicts: by the number of each step that is set wrong, how much the length changes for 1.
    listed = all_steps(steps)
    hairline = {}
    offset = {}
    reading = {}
    notes = {}
    for number, _, _, _ in track.stood:
        step = listed[number]
        turns, _ = rule.scale(step[1])
        base = offset if rule.is_sliding(step[1]) else {}
        if step[0] == "read":
            reading = _mixed({}, _mixed(hairline, base, (-1, 1)), (turns, 1))
            notes[step[2]] = reading
            continue
        position = _mixed({}, notes.get(step[3], {}), fraction(1, turns))
        if step[0] == "line":
            hairline = _mixed(_mixed(base, position, (1, 1)), {number: (1, 1)}, (1, 1))
        else:
            offset = _mixed(_mixed(hairline, position, (-1, 1)), {number: (1, 1)}, (1, 1))
    sizes = [_size(fault) for fault in reading.values()]
    return total(*sizes)


def _mixed(faults, others, factor):
    """Return the sum of faults and of others times a factor."""
    mixed = dict(faults)
    for number, fault in others.items():
        mixed[number] = plus(mixed.get(number, (0, 1)), times(fault, factor))
    return mixed


def _size(one):
    """Return a fraction without its sign."""
    return (abs(one[0]), one[1])
