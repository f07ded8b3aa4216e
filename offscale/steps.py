"""Workings: programs of steps, what is wrong with them, and whether they fit a rule."""

from offscale.bounds import MAX_DEPTH, MAX_OPERANDS, MAX_STEPS, MAX_TURNS
from offscale.fractions import is_whole
from offscale.names import is_name, is_scale_name
from offscale.rules import count_stretches, is_mantissa

# How many items a step has that begins with the word.
ITEMS = {"line": 4, "slide": 4, "read": 3, "try": 3}
ENDS = ("left", "right")


def working_error(value):
    """Return None if value, which may be anything, is a working; otherwise where and why not."""
    if not isinstance(value, tuple):
        return (None, "working")
    wrong = _wrong_step(value)
    if wrong is not None:
        return wrong
    if count_steps(value) > MAX_STEPS:
        return (None, "many")
    if not _is_ended(value):
        return (None, "end")
    number = _first_out_of_scope(value)
    if number is not None:
        return (number, "scope")
    if len(operands_of(value)) > MAX_OPERANDS:
        return (None, "operands")
    return None


def all_steps(steps):
    """Return the list of all steps in the order of their numbers, those in tries too."""
    found = []
    for step in steps:
        found.append(step)
        if step[0] == "try":
            found.extend(all_steps(step[1]))
            found.extend(all_steps(step[2]))
    return found


def count_steps(steps):
    """Return how many steps there are, those in tries counted too."""
    return len(all_steps(steps))


def notes_of(steps):
    """Return the names that are read, ascending."""
    return tuple(sorted({step[2] for step in all_steps(steps) if step[0] == "read"}))


def operands_of(steps):
    """Return the names that are figures, but for those that are read, ascending."""
    notes = notes_of(steps)
    figures = [step[3] for step in all_steps(steps) if step[0] in ("line", "slide")]
    return tuple(sorted({figure for figure in figures if is_name(figure) and figure not in notes}))


def misfit(rule, steps):
    """Return None if a working fits the rule; otherwise the first step that does not, and why."""
    for number, step in enumerate(all_steps(steps)):
        word = _misfit_word(rule, step)
        if word is not None:
            return (number, word)
    return None


def _misfit_word(rule, step):
    """Return why a step does not fit the rule, None if it does."""
    if step[0] == "try":
        return None
    scale = step[1]
    if scale not in rule:
        return "scale"
    if step[0] == "read":
        return None
    if step[0] == "slide" and not rule.is_sliding(scale):
        return "slide"
    if step[2] >= count_stretches(rule, scale):
        return "stretch"
    return None


def _wrong_step(steps):
    """Return the number of the first step that is wrong by itself, and why; None if none is."""
    # The steps not yet looked at, the next one last, each with the number of tries around it.
    waiting = [(step, 0) for step in steps[::-1]]
    number = 0
    while waiting:
        step, depth = waiting.pop()
        word = _wrong_word(step, depth)
        if word is not None:
            return (number, word)
        if step[0] == "try":
            inner = (*step[1], *step[2])
            waiting.extend([(part, depth + 1) for part in inner[::-1]])
        number += 1
    return None


def _wrong_word(value, depth):
    """Return what is wrong with a step by itself in as many tries as depth tells; None if nothing is."""
    if not _begins_step(value):
        return "step"
    if value[0] == "try":
        return _wrong_try(value, depth)
    if not is_scale_name(value[1]):
        return "scale"
    if value[0] == "read":
        return None if is_name(value[2]) else "name"
    return _wrong_figure(value[2], value[3])


def _begins_step(value):
    """Tell whether value begins with the word of a step and has as many items as such a step."""
    if not isinstance(value, tuple) or not value or not isinstance(value[0], str):
        return False
    return value[0] in ITEMS and len(value) == ITEMS[value[0]]


def _wrong_try(step, depth):
    """Return what is wrong with a try by itself, None if nothing is."""
    _, first, second = step
    if not isinstance(first, tuple) or not isinstance(second, tuple) or not first:
        return "parts"
    return "deep" if depth >= MAX_DEPTH else None


def _wrong_figure(stretch, figure):
    """Return what is wrong with the stretch and the figure of a step, None if nothing is."""
    if not is_whole(stretch) or not 0 <= stretch < MAX_TURNS:
        return "stretch"
    if figure in ENDS:
        return None if stretch == 0 else "figure"
    return None if is_name(figure) or is_mantissa(figure) else "figure"


def _is_ended(steps):
    """Tell whether the steps end: whatever way a run takes, it reads last."""
    if not steps:
        return False
    last = steps[-1]
    if last[0] == "try":
        return _is_ended(last[1]) and _is_ended(last[2])
    return last[0] == "read"


def _first_out_of_scope(steps):
    """Return the number of the first step that is not in scope, None if all are."""
    wrong, _ = _look_at_scope(steps, 0, (), notes_of(steps))
    return wrong


def _look_at_scope(steps, number, known, notes):
    """Look at the steps, the first of which has this number, with the names that are known at it.

    Return the number of the first one that is not in scope, None if all are; and the names known behind them.
    """
    for step in steps:
        wrong, known = _look_at_step(step, number, known, notes)
        if wrong is not None:
            return wrong, known
        number += count_steps((step,))
    return None, known


def _look_at_step(step, number, known, notes):
    """Do the same for one step and what is in it."""
    if step[0] == "read":
        return (number if step[2] in known else None), (*known, step[2])
    if step[0] != "try":
        figure = step[3]
        return (number if figure in notes and figure not in known else None), known
    first = number + 1
    wrong, ahead = _look_at_scope(step[1], first, known, notes)
    if wrong is not None:
        return wrong, known
    wrong, behind = _look_at_scope(step[2], first + count_steps(step[1]), known, notes)
    return wrong, tuple([name for name in ahead if name in behind])
