"""Systems of conditions: a point at which all of them hold, or a paper that there is none.

A condition is a tuple (form, strict): the form must be at least 0, or above 0 if strict is True.
"""

from math import gcd, lcm

from offscale.errors import Missing
from offscale.forms import Form
from offscale.fractions import compare, fraction, is_whole


def holds(conditions, operands):
    """Tell whether all conditions hold at the operands."""
    for name in _names_in(conditions):
        if name not in operands:
            raise Missing(name)
    return all([_is_met(form.value_at(operands), strict) for form, strict in conditions])


def solve(conditions):
    """Return ("point", operands) at which all conditions hold, or ("never", paper) if there are none."""
    table = Table(conditions)
    table.bring_in_names()
    while True:
        row = table.first_below()
        if row is None:
            return ("point", _point(table, _names_in(conditions)))
        column = table.first_rising(row)
        if column is None:
            return ("never", _paper(table, row, conditions))
        table.swap(row, column)


def never_holds(conditions, value):
    """Tell whether value, which may be anything, is a paper of the conditions."""
    if not _are_shares(value, len(conditions)):
        return False
    whole = Form()
    for (form, _), share in zip(conditions, value):
        whole = whole + form * (share, 1)
    if whole.terms:
        return False
    top = whole.constant[0]
    strictly = any([strict and share > 0 for (_, strict), share in zip(conditions, value)])
    return top < 0 or (top == 0 and strictly)


class Table:
    """The slacks of conditions: what their forms, times a whole number, leave over.

    There are as many rows as conditions, and as many columns as names. The variable basis[k] of row k,
    times bottom, is the sum of the variables columns[0], columns[1], .., each times its integer in the
    row; then the constant of the row; then its last integer times a length that is above 0, but as
    small as need be. A slack is a variable by the number of its condition, a name by itself.

    A strict condition asks its form to be at least that length. So all conditions hold if no slack is
    below 0, where a row is compared by its constant and, if that is 0, by its last integer. The point
    of a table is the one where the variables of all columns are 0.
    """

    def __init__(self, conditions):
        names = _names_in(conditions)
        self.rows = [_slack(form, strict, names) for form, strict in conditions]
        self.basis = list(range(len(conditions)))
        self.columns = names
        self.bottom = 1

    def swap(self, at, column):
        """Let the variables of a row and of a column change places; their integer must not be 0."""
        chosen = self.rows[at]
        pivot = chosen[column]
        sign = 1 if pivot > 0 else -1
        swapped = []
        for row in self.rows:
            factor = row[column]
            # All integers of a table are minors of the first one, so the division leaves no rest.
            new = [sign * ((pivot * one - factor * other) // self.bottom) for one, other in zip(row, chosen)]
            new[column] = sign * factor
            swapped.append(new)
        swapped[at] = [-sign * one for one in chosen]
        swapped[at][column] = sign * self.bottom
        self.rows = swapped
        self.bottom = abs(pivot)
        self.basis[at], self.columns[column] = self.columns[column], self.basis[at]

    def bring_in_names(self):
        """Let all names change places with slacks, but for those that no slack depends on any longer."""
        for column in range(len(self.columns)):
            rows = [at for at in self.slack_rows() if self.rows[at][column] != 0]
            if rows:
                self.swap(rows[0], column)

    def slack_rows(self):
        """Return the indexes of the rows of slacks."""
        return [at for at, variable in enumerate(self.basis) if is_whole(variable)]

    def first_below(self):
        """Return the row of the slack with the least number that is below 0, None if none is."""
        # To take the least numbers, here and in first_rising, keeps a search from going in circles.
        below = [(self.basis[at], at) for at in self.slack_rows() if tuple(self.rows[at][-2:]) < (0, 0)]
        return min(below)[1] if below else None

    def first_rising(self, at):
        """Return the column of the slack with the least number that lifts the row, None if none does."""
        # The column of a name has no other integer than 0 in the row of a slack.
        rising = [(variable, column) for column, variable in enumerate(self.columns) if self.rows[at][column] > 0]
        return min(rising)[1] if rising else None


def _names_in(conditions):
    """Return the list of the names that occur in the conditions, ascending."""
    return sorted({name for form, _ in conditions for name in form.names})


def _is_met(value, strict):
    """Tell whether a condition holds whose form has this value."""
    return value[0] > 0 or (value[0] == 0 and not strict)


def _are_shares(value, many):
    """Tell whether value is a tuple of so many integers, none of them below 0."""
    if not isinstance(value, tuple) or len(value) != many:
        return False
    return all([is_whole(share) and share >= 0 for share in value])


def _multiple(form):
    """Return the least integer above 0 that makes all fractions of a form integers."""
    multiple = form.constant[1]
    for _, factor in form.terms:
        multiple = lcm(multiple, factor[1])
    return multiple


def _slack(form, strict, names):
    """Return the row of the slack of a condition in the first table."""
    multiple = _multiple(form)
    parts = [*[form.factor(name) for name in names], form.constant]
    row = [top * (multiple // bottom) for top, bottom in parts]
    row.append(-1 if strict else 0)
    return row


def _point(table, names):
    """Return the operands at the point of a table in which no slack is below 0."""
    top, bottom = _small_length(table)
    operands = {name: (0, 1) for name in names}
    for variable, row in zip(table.basis, table.rows):
        if variable in operands:
            operands[variable] = fraction(row[-2] * bottom + row[-1] * top, table.bottom * bottom)
    return operands


def _small_length(table):
    """Return a length above 0, at most 1, that is small enough for every slack to stay at least 0."""
    length = (1, 1)
    for at in table.slack_rows():
        constant, last = table.rows[at][-2:]
        if last < 0:
            limit = fraction(constant, -last)
            length = limit if compare(limit, length) < 0 else length
    return length


def _paper(table, at, conditions):
    """Return the paper of a row that is below 0 and that no column lifts."""
    # The row tells that this slack, less the others times their integers, is below 0 everywhere.
    shares = [0] * len(conditions)
    shares[table.basis[at]] = table.bottom
    for variable, one in zip(table.columns, table.rows[at]):
        if is_whole(variable):
            shares[variable] = -one
    # A slack is its form times a multiple, so the form counts so many times more.
    shares = [share * _multiple(form) for share, (form, _) in zip(shares, conditions)]
    divisor = 0
    for share in shares:
        divisor = gcd(divisor, share)
    return tuple([share // divisor for share in shares])
