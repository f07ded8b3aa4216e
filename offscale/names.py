"""Names of operands and notes, and names of scales."""

LETTERS = "abcdefghijklmnopqrstuvwxyz"
CAPITALS = "ABCDEFGHIJKLMNOPQRSTUVWXYZ"
LONGEST = 3


def is_name(value):
    """Tell whether value, which may be anything, is a name of an operand or a note."""
    return _is_word(value, LETTERS)


def is_scale_name(value):
    """Tell whether value, which may be anything, is a name of a scale."""
    return _is_word(value, CAPITALS)


def _is_word(value, letters):
    """Tell whether value is a string of 1 to LONGEST of these letters."""
    if not isinstance(value, str) or not 1 <= len(value) <= LONGEST:
        return False
    return all([letter in letters for letter in value])
