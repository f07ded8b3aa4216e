"""The decimal point: what is seen of the slide and the scales, and the books that tell the carry by it."""

from offscale.bounds import MAX_FEATURES
from offscale.claims import check_wish, joint_names, names_of, sum_of
from offscale.errors import BadBook, BadFeatures, BadWish, Off
from offscale.forms import Form
from offscale.fractions import floor_of, is_fraction, is_whole, plus, times
from offscale.regions import box
from offscale.rules import is_mantissa
from offscale.runs import check_working, track_at
from offscale.sheets import tracks_in
from offscale.steps import all_steps, operands_of
from offscale.wholes import solve_wholes

# The word of the step whose number stands behind the word of a feature.
SEEN_AT = {"left": "slide", "right": "slide", "decade": "read"}


def carry(wish, operands):
    """Return the carry of a wish at operands."""
    _check_product(wish)
    return floor_of(sum_of(wish).value_at(operands))


def tally(rule, steps, features, book, operands):
    """Return what a book tells of the run at operands."""
    track = track_at(rule, steps, operands, True)
    _check_features(steps, features)
    _check_book(features, book)
    if track.off is not None:
        raise Off(track.off)
    return _told(book, _values(features, track))


def book_fails(rule, steps, wish, features, book):
    """Return operands at which the run reads and the book does not tell the carry, None if there are none."""
    region = _checked_region(rule, steps, wish, features)
    _check_book(features, book)
    for track in _reading_tracks(rule, steps, region):
        beyond = sum_of(wish) - Form((), (_told(book, _values(features, track)), 1))
        # The carry is right just if the sum is from what is told to below what is told and 1.
        for form, strict in ((-beyond, True), (beyond - Form((), (1, 1)), False)):
            part = track.region.cut(form, strict)
            if part is not None:
                return part.middle()
    return None


def right_books(rule, steps, wish, features):
    """Return ("books", book, basis) for all right books, or ("none", paper) if there are none."""
    region = _checked_region(rule, steps, wish, features)
    points = {}
    for track in _reading_tracks(rule, steps, region):
        row = (1, *_values(features, track))
        for floor, part in track.region.floors(sum_of(wish)):
            points.setdefault((row, floor), part.middle())
    equations = list(points)
    answer = solve_wholes(equations, len(features) + 1)
    if answer[0] == "all":
        return ("books", answer[1], answer[2])
    return ("none", tuple([(points[equations[index]], share) for index, share in answer[1]]))


def paper_holds(rule, steps, wish, features, value):
    """Return whether value, which may be anything, is a paper that there is no right book."""
    region = _checked_region(rule, steps, wish, features)
    if not isinstance(value, tuple) or not all([_is_pair(item, region.order) for item in value]):
        return False
    sums = [(0, 1)] * (len(features) + 2)
    for operands, share in value:
        track = track_at(rule, steps, operands, True)
        if track.off is not None:
            return False
        row = (1, *_values(features, track), carry(wish, operands))
        sums = [plus(one, times(share, (many, 1))) for one, many in zip(sums, row)]
    # The bottom of an integer is 1.
    return all([one[1] == 1 for one in sums[:-1]]) and sums[-1][1] != 1


def _check_product(wish):
    """Raise the error that tells why wish, which may be anything, has no carry."""
    check_wish(wish)
    if wish[0] != 1:
        raise BadWish("times")


def _check_features(steps, features):
    """Raise the error that tells why these, which may be anything, are no features of a working."""
    if not isinstance(features, tuple) or len(features) > MAX_FEATURES:
        raise BadFeatures(None)
    listed = all_steps(steps)
    for index, item in enumerate(features):
        if not _is_feature(listed, item) or item in features[:index]:
            raise BadFeatures(index)


def _is_feature(listed, value):
    """Tell whether value is a feature of a working with these steps."""
    if not isinstance(value, tuple) or len(value) != 2:
        return False
    word, number = value
    if not isinstance(word, str) or word not in SEEN_AT:
        return False
    return is_whole(number) and 0 <= number < len(listed) and listed[number][0] == SEEN_AT[word]


def _check_book(features, book):
    """Raise BadBook if book, which may be anything, is not a book for the features."""
    if not isinstance(book, tuple) or len(book) != len(features) + 1:
        raise BadBook()
    if not all([is_whole(item) for item in book]):
        raise BadBook()


def _checked_region(rule, steps, wish, features):
    """Return the region of all operands of a working and a wish; raise what is wrong with them or the features."""
    check_working(rule, steps)
    _check_product(wish)
    _check_features(steps, features)
    return box(joint_names(operands_of(steps), names_of(wish)))


def _reading_tracks(rule, steps, region):
    """Return the tracks that read, which see of each slide step that stands to which side the slide stands out."""
    return [track for track in tracks_in(rule, steps, region, True) if track.off is None]


def _values(features, track):
    """Return the list of the values of features in the runs of a track."""
    seen = {number: what for number, _, _, what in track.stood}
    # A step that does not stand shows as little as a slide that stands at 0.
    return [_value(word, seen.get(number, 0)) for word, number in features]


def _value(word, what):
    """Return the value of a feature where this is seen at its step."""
    if word == "decade":
        return what
    side = -1 if word == "left" else 1
    return 1 if what == side else 0


def _told(book, values):
    """Return what a book tells where its features have these values."""
    return book[0] + sum([weight * value for weight, value in zip(book[1:], values)])


def _is_pair(value, names):
    """Tell whether value is a pair of a dict with a mantissa for each name, and a fraction."""
    if not isinstance(value, tuple) or len(value) != 2:
        return False
    operands, share = value
    if not isinstance(operands, dict) or not is_fraction(share):
        return False
    return all([name in operands and is_mantissa(operands[name]) for name in names])
