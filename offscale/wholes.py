"""Equations in integers: all solutions, or shares of the equations that show that there are none.

An equation is a tuple (row, value): the unknown integers, each times its own of the row, come to value.
"""

from offscale.fractions import fraction, minus, times


def solve_wholes(equations, many):
    """Return ("all", one, basis) or ("none", shares) for equations in so many unknowns.

    The solutions are just the sums of one and integer multiples of those in basis, each in one way only.
    Shares are pairs of the index of an equation and a fraction. The sum of these rows, each times its
    fraction, is a row of integers; the sum of the values, each times the same, is not an integer.
    """
    one = [0] * many
    free = [[1 if at == column else 0 for column in range(many)] for at in range(many)]
    # For each equation that was of use: its index, what was free to meet it, and how far that moves its row.
    fixed = []
    for index, (row, value) in enumerate(equations):
        rest = value - _applied(row, one)
        mover, free = _gather(row, free)
        if mover is None:
            if rest != 0:
                return ("none", _shares(equations, fixed, index, fraction(1, 2 * rest)))
            continue
        height = _applied(row, mover)
        if rest % height != 0:
            return ("none", _shares(equations, fixed, index, fraction(1, height)))
        one = _less(one, mover, -(rest // height))
        fixed.append((index, mover, height))
    return ("all", tuple(one), tuple([tuple(other) for other in free]))


def _applied(row, unknowns):
    """Return what the row comes to for these unknowns."""
    return sum([factor * unknown for factor, unknown in zip(row, unknowns)])


def _less(one, other, many):
    """Return one less so many times other."""
    return [top - many * back for top, back in zip(one, other)]


def _gather(row, basis):
    """Return what is as good as this basis: the only member that moves the row, None if none does; the others."""
    mover = None
    rest = []
    for other in basis:
        if mover is None and _applied(row, other) != 0:
            mover = other
            continue
        # What moves the row is gathered in one member in the way in which greatest common divisors are found.
        while _applied(row, other) != 0:
            many = _applied(row, mover) // _applied(row, other)
            mover, other = other, _less(mover, other, many)
        rest.append(other)
    return mover, rest


def _shares(equations, fixed, index, share):
    """Return the shares where this equation, which has this share, cannot be met beside those that are fixed."""
    shares = [(index, share)]
    for at, mover, height in fixed[::-1]:
        # This share takes care that the sum of the rows does not move with what met an earlier equation.
        moved = (0, 1)
        for other, part in shares:
            moved = minus(moved, times(part, (_applied(equations[other][0], mover), 1)))
        if moved[0] != 0:
            shares.append((at, times(moved, fraction(1, height))))
    return tuple(shares)
