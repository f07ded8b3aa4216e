"""Forms: sums of names, each times a fraction, and a constant."""

from offscale.errors import BadForm, Missing
from offscale.fractions import is_fraction, plus, times
from offscale.names import is_name


class Form:
    """A sum of names, each times a fraction, and a constant. It never changes."""

    def __init__(self, terms=(), constant=(0, 1)):
        if not _are_terms(terms) or not is_fraction(constant):
            raise BadForm()
        self._terms = tuple(sorted([term for term in terms if term[1][0] != 0]))
        self._constant = constant

    @property
    def terms(self):
        """The pairs of a name and its factor, in the order of the names; no factor is zero."""
        return self._terms

    @property
    def constant(self):
        """What is added to the names."""
        return self._constant

    @property
    def names(self):
        """The names that occur, in ascending order."""
        return tuple([term[0] for term in self._terms])

    def factor(self, name):
        """Return the factor of a name, zero if it does not occur."""
        for term in self._terms:
            if term[0] == name:
                return term[1]
        return (0, 1)

    def value_at(self, operands):
        """Return the value of the form, each name standing for its operand."""
        value = self._constant
        for name, factor in self._terms:
            if name not in operands:
                raise Missing(name)
            value = plus(value, times(factor, operands[name]))
        return value

    def __call__(self, operands):
        # What an operator runs may not call an object, so the work is done in a plain method.
        return self.value_at(operands)

    def __add__(self, other):
        if not isinstance(other, Form):
            return NotImplemented
        factors = dict(self._terms)
        for name, factor in other._terms:
            factors[name] = plus(factors.get(name, (0, 1)), factor)
        return Form(tuple(factors.items()), plus(self._constant, other._constant))

    def __sub__(self, other):
        if not isinstance(other, Form):
            return NotImplemented
        return self + -other

    def __neg__(self):
        return self * (-1, 1)

    def __mul__(self, other):
        if not is_fraction(other):
            return NotImplemented
        terms = tuple([(name, times(factor, other)) for name, factor in self._terms])
        return Form(terms, times(self._constant, other))

    def __eq__(self, other):
        return isinstance(other, Form) and self._terms == other._terms and self._constant == other._constant

    def __str__(self):
        parts = [f"{_shown(factor)} {name}" for name, factor in self._terms]
        return " + ".join([*parts, _shown(self._constant)])


def _are_terms(value):
    """Tell whether value is a tuple of terms with unlike names."""
    if not isinstance(value, tuple) or not all([_is_term(item) for item in value]):
        return False
    return len({item[0] for item in value}) == len(value)


def _is_term(value):
    """Tell whether value is a pair of a name and a fraction."""
    return isinstance(value, tuple) and len(value) == 2 and is_name(value[0]) and is_fraction(value[1])


def _shown(one):
    """Return a fraction as it is written in texts."""
    return f"{one[0]}/{one[1]}"
