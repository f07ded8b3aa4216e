"""Texts of workings: how they are written, and how they are read back."""

from offscale.bounds import MAX_TURNS
from offscale.errors import BadText, BadWorking
from offscale.names import is_name, is_scale_name
from offscale.rules import is_mantissa
from offscale.steps import ENDS, working_error

DIGITS = "0123456789"
MOST_DIGITS = 40

# What comes behind the first word of a step: pieces by themselves, and words for pieces of a kind.
# "close" is the "}" at which a try is whole; "more" and "steps" may also stand for no pieces.
BEHIND = {
    "line": ("place", "figure"),
    "slide": ("place", "figure"),
    "read": ("scale", "name"),
    "try": ("{", "step", "more", "}", "else", "{", "steps", "close"),
}


def working_text(steps):
    """Return the text of a working."""
    return " ; ".join([_step_text(step) for step in steps])


def read_working(value):
    """Return the working whose text value is; value may be anything."""
    if not isinstance(value, str):
        raise BadText(None)
    # Python would split an empty string into one empty piece.
    pieces = value.split(" ") if value else []
    reader = Reader()
    for at, piece in enumerate(pieces):
        if not reader.takes(piece):
            raise BadText(at)
    if not reader.may_end():
        raise BadText(len(pieces))
    steps = reader.all_read()
    error = working_error(steps)
    if error is not None:
        raise BadWorking(error)
    return steps


class Reader:
    """Takes the pieces of a text one by one, and makes steps of them.

    What is open stands on lists, so tries may lie deeper in one another than calls of functions may.
    """

    def __init__(self):
        # What is still to come, the next one last, by the words of BEHIND.
        self.wanted = ["more", "step"]
        # The steps of each part that is open, those of the whole text first.
        self.parts = [[]]
        # The items of the step that has begun.
        self.begun = []

    def takes(self, piece):
        """Take the next piece; return whether some text goes on with it."""
        want = self._next_wanted(piece)
        if want in ("step", "steps", "more"):
            return self._begins(piece, want)
        if want in ("place", "figure", "scale", "name"):
            return self._adds(piece, want)
        if want == "close":
            self._close()
            return piece == "}"
        if want == "{":
            self.parts.append([])
        return piece == want

    def may_end(self):
        """Return whether the pieces so far are a text."""
        return self.wanted == ["more"]

    def all_read(self):
        """Return the steps of the text."""
        return tuple(self.parts[0])

    def _next_wanted(self, piece):
        """Return what the piece has to be, None if nothing may come."""
        want = self.wanted.pop()
        if (want == "more" and piece != ";") or (want == "steps" and piece == "}"):
            return self.wanted.pop() if self.wanted else None
        return want

    def _begins(self, piece, want):
        """Take the first word of a step, or what stands ahead of a further one."""
        if want == "more":
            self.wanted.extend(["more", "step"])
            return True
        if piece not in BEHIND:
            return False
        if want == "steps":
            self.wanted.append("more")
        self.begun = [piece]
        self.wanted.extend(BEHIND[piece][::-1])
        return True

    def _adds(self, piece, want):
        """Take a further piece of a step that is no try."""
        if want == "place":
            items = _place_items(piece)
        elif want == "figure":
            items = _figure_items(piece, self.begun[2])
        else:
            right = is_scale_name(piece) if want == "scale" else is_name(piece)
            items = [piece] if right else []
        self.begun.extend(items)
        if want in ("figure", "name"):
            self.parts[-1].append(tuple(self.begun))
        return len(items) > 0

    def _close(self):
        """Make a try of the two parts that were opened last."""
        second = tuple(self.parts.pop())
        first = tuple(self.parts.pop())
        self.parts[-1].append(("try", first, second))


def _place_items(piece):
    """Return the scale and the stretch that a piece tells, nothing if it is wrong."""
    scale, point, stretch = piece.partition(".")
    if not is_scale_name(scale):
        return []
    if not point:
        return [scale, 0]
    # A stretch is written only where it is not the first one.
    return [scale, int(stretch)] if stretch in [str(one) for one in range(1, MAX_TURNS)] else []


def _figure_items(piece, stretch):
    """Return the figure that a piece tells behind this stretch, nothing if it is wrong."""
    if piece in ENDS:
        return [piece] if stretch == 0 else []
    if is_name(piece):
        return [piece]
    top, _, bottom = piece.partition("/")
    if not _is_numeral(top) or not _is_numeral(bottom):
        return []
    mark = (int(top), int(bottom))
    return [mark] if is_mantissa(mark) else []


def _is_numeral(text):
    """Tell whether a text is an integer as it is written in marks."""
    if not 1 <= len(text) <= MOST_DIGITS or not all([digit in DIGITS for digit in text]):
        return False
    return text == "0" or text[0] != "0"


def _step_text(step):
    """Return the text of a step."""
    if step[0] == "try":
        return f"try {_part_text(step[1])} else {_part_text(step[2])}"
    if step[0] == "read":
        return " ".join(step)
    word, scale, stretch, figure = step
    place = f"{scale}.{stretch}" if stretch else scale
    return f"{word} {place} {_figure_text(figure)}"


def _part_text(steps):
    """Return the text of a part of a try, with its braces."""
    return "{ " + working_text(steps) + " }" if steps else "{ }"


def _figure_text(figure):
    """Return the text of a figure."""
    return figure if isinstance(figure, str) else f"{figure[0]}/{figure[1]}"
