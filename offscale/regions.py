"""Regions: the operands at which some conditions hold, kept with the corners of the space between them.

Workings split their operands again and again. With the corners at hand each split is decided by the values
of one form there, which is far quicker than to solve the system of all conditions each time.
"""

from math import gcd, lcm

from offscale.forms import Form
from offscale.fractions import floor_of, fraction, minus, plus, times


class Region:
    """The operands at which some conditions hold; there are some. It never changes.

    The space in which no form of a condition is below 0 has an end on all sides, and so it has corners. A
    corner is a pair: a tuple of integers, the first of which is above 0 and divides the others into the
    operands, in their order; and an integer whose bit k is set if the form of condition k is 0 there. The
    integer strict has the bits of the strict conditions.
    """

    def __init__(self, order, conditions, corners, strict):
        self.order = order
        self.conditions = conditions
        self.corners = corners
        self.strict = strict

    def cut(self, form, strict):
        """Return the part of the region at which one more condition holds, None if there is none."""
        row = _integers(form, self.order)
        heights = [_height(row, spot) for spot, _ in self.corners]
        if min(heights) > 0 or (min(heights) == 0 and not strict):
            return self
        bit = 1 << len(self.conditions)
        corners = [
            (spot, bits if height > 0 else bits | bit)
            for (spot, bits), height in zip(self.corners, heights) if height >= 0
        ]
        corners.extend(_crossings(self.corners, heights, bit))
        strict_bits = self.strict | bit if strict else self.strict
        # If each strict form is above 0 at some corner, then all of them are in the middle of the corners.
        if not corners or _common_bits(corners) & strict_bits:
            return None
        return Region(self.order, (*self.conditions, (form, strict)), corners, strict_bits)

    def within(self, *conditions):
        """Return the part of the region at which these conditions hold, too, None if there is none."""
        part = self
        for form, strict in conditions:
            part = part.cut(form, strict)
            if part is None:
                return None
        return part

    def middle(self):
        """Return operands of the region, which lie amid its corners."""
        spot = [0] * (len(self.order) + 1)
        for corner, _ in self.corners:
            spot = [one + other for one, other in zip(spot, corner)]
        return {name: fraction(one, spot[0]) for name, one in zip(self.order, spot[1:])}

    def floors(self, form):
        """Return each floor of the form's value, with the part of the region at which it is this one."""
        floors = [floor_of(form.value_at(_operands(self.order, spot))) for spot, _ in self.corners]
        one = Form((), (1, 1))
        rows = []
        for floor in range(min(floors), max(floors) + 1):
            behind = form - one * (floor, 1)
            rows.append((floor, self.within((behind, False), (one - behind, True))))
        return _some(rows)

    def signs(self, form):
        """Return each sign of the form's value, -1, 0 or 1, with the part of the region that has it."""
        return _some([
            (-1, self.cut(-form, True)),
            (0, self.within((form, False), (-form, False))),
            (1, self.cut(form, True)),
        ])

    def ways(self, form):
        """Return the same for whether the form's value is below 0, from 0 to 1, or above 1."""
        beyond = form - Form((), (1, 1))
        return _some([
            (-1, self.cut(-form, True)),
            (0, self.within((form, False), (-beyond, False))),
            (1, self.cut(beyond, True)),
        ])

    def where_no_integer(self, form):
        """Return operands of the region at which the form's value is no integer, None if there are none."""
        middle = self.middle()
        value = form.value_at(middle)
        if value[1] != 1:
            return middle
        for spot, _ in self.corners:
            corner = _operands(self.order, spot)
            top = abs(minus(form.value_at(corner), value)[0])
            if top != 0:
                # So far from the middle towards the corner the value changes, but by less than 1.
                return _between(middle, corner, (1, top + 1))
        return None


def box(order):
    """Return the region of all operands from 0 to below 1 for these names, in their order."""
    one = Form((), (1, 1))
    conditions = []
    corners = [((1,), 0)]
    strict = 0
    for name in order:
        low = 1 << len(conditions)
        high = low << 1
        corners = [((*spot, end), bits | (high if end else low)) for spot, bits in corners for end in (0, 1)]
        form = Form(((name, (1, 1)),))
        conditions.extend([(form, False), (one - form, True)])
        strict = strict | high
    return Region(order, tuple(conditions), corners, strict)


def _some(rows):
    """Return the rows that have a region."""
    return [row for row in rows if row[1] is not None]


def _integers(form, order):
    """Return the constant and the factors of a form, all of them times what makes them integers."""
    factors = dict(form.terms)
    parts = [form.constant, *[factors.get(name, (0, 1)) for name in order]]
    multiple = 1
    for _, bottom in parts:
        multiple = lcm(multiple, bottom)
    return [top * (multiple // bottom) for top, bottom in parts]


def _height(row, spot):
    """Return an integer with the sign that the form of a row has at a corner."""
    return sum([one * other for one, other in zip(row, spot)])


def _operands(order, spot):
    """Return the operands of a corner."""
    return {name: fraction(top, spot[0]) for name, top in zip(order, spot[1:])}


def _common_bits(corners):
    """Return the bits that are set at all corners."""
    common = corners[0][1]
    for _, bits in corners:
        common = common & bits
    return common


def _crossings(corners, heights, bit):
    """Return the corners at which edges go from above 0 to below it."""
    rows = [(spot, bits, height) for (spot, bits), height in zip(corners, heights)]
    above = [row for row in rows if row[2] > 0]
    below = [row for row in rows if row[2] < 0]
    found = []
    for upper, upper_bits, rise in above:
        for lower, lower_bits, fall in below:
            common = upper_bits & lower_bits
            # There is an edge between two corners if no third one lies on all the walls that they share.
            if len([bits for _, bits in corners if bits & common == common]) == 2:
                spot = [rise * one - fall * other for one, other in zip(lower, upper)]
                found.append((_reduced(spot), common | bit))
    return found


def _reduced(spot):
    """Return the integers of a corner divided by what divides all of them."""
    divisor = 0
    for one in spot:
        divisor = gcd(divisor, one)
    return tuple([one // divisor for one in spot])


def _between(one, other, share):
    """Return the operands that lie by this share of the way from one to other."""
    return {name: plus(one[name], times(share, minus(other[name], one[name]))) for name in one}
