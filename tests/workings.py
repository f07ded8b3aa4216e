"""Rules, workings, wishes and operands by chance for the tests; and runs worked out in another way.

Here a run is worked out with Python's own fractions, step by step, and what goes off is an exception.
"""

from fractions import Fraction
from math import floor

from offscale.rules import Rule
from offscale.steps import misfit, operands_of, working_error
from samples import pair

BOTTOMS = (1, 2, 3, 4, 6, 12)

COMMON = Rule.common()
READ = ("read", "D", "out")
PRODUCT = (("line", "D", 0, "x"), ("slide", "C", 0, "left"), ("line", "C", 0, "y"), READ)
FIRST = (("slide", "C", 0, "left"), ("line", "C", 0, "y"))
SECOND = (("slide", "C", 0, "right"), ("line", "C", 0, "y"))
BOTH = (("line", "D", 0, "x"), ("try", FIRST, SECOND), READ)
QUOTIENT = (
    ("line", "D", 0, "x"), ("slide", "C", 0, "y"),
    ("try", (("line", "C", 0, "left"),), (("line", "C", 0, "right"),)), READ,
)

# These do something else just where x and y are the same: the first goes off there, the second reads 1/2.
LINE_OFF = (
    ("line", "D", 0, "x"), ("slide", "C", 0, "y"),
    ("try", (("line", "C", 0, "right"), ("line", "C", 0, "left"), ("slide", "C", 0, "right")),
     (("line", "D", 0, "left"), ("slide", "C", 0, "left"))),
    ("line", "C", 0, "left"), READ,
)
LINE_READS = (
    ("line", "D", 0, "x"), ("slide", "C", 0, "y"),
    ("try", (("line", "C", 0, "right"), ("line", "C", 0, "left"), ("line", "D", 0, (1, 2))),
     (("line", "D", 0, "left"),)), READ,
)

# A rule and workings of ten steps with three operands that take very many courses.
WIDE = Rule(
    (("A", 1, (0, 1)), ("B", 3, (1, 3)), ("C", -3, (1, 4))), (("D", 1, (1, 2)), ("E", 3, (0, 1)), ("F", -3, (1, 5))),
)
CHAIN = (
    ("line", "A", 0, "x"), ("slide", "D", 0, "y"), ("line", "D", 0, "z"), ("read", "B", "a"), ("line", "A", 0, "a"),
    ("read", "E", "b"), ("line", "D", 0, "b"), ("read", "B", "c"), ("line", "D", 0, "c"), ("read", "C", "d"),
)
TRIES = (
    ("line", "E", 2, "x"), ("slide", "F", 1, "z"),
    ("try", (("line", "D", 0, "x"), ("try", (("line", "F", 0, "y"),), (("slide", "D", 0, "x"),))), ()),
    ("read", "B", "n"), ("line", "E", 1, "n"), ("read", "A", "out"),
)


class GoesOff(Exception):
    """A run goes off at the step of this number."""


class Play:
    """One run: what it reads or where it goes off, and all that is seen of it."""

    def __init__(self, rule, steps, operands, signs=False, faults=None, course=None):
        self.scales = {name: (turns, Fraction(*fold), False) for name, turns, fold in rule.body}
        self.scales.update({name: (turns, Fraction(*fold), True) for name, turns, fold in rule.slide})
        self.signs = signs
        # For slack: how much each step is set wrong. Then the floors and ways of a told course are taken.
        self.faults = faults or {}
        self.told = None if course is None else list(course)
        self.course = []
        self.hairline = self.offset = Fraction(0)
        self.notes = {name: Fraction(*operands[name]) for name in operands_of(steps)}
        self.trail = []
        self.seen = {}
        self.reading = self.off = None
        try:
            self.do_all(steps, 0)
        except GoesOff as error:
            self.off = error.args[0]

    @property
    def outcome(self):
        return ("reads", pair(self.reading)) if self.off is None else ("off", self.off)

    @property
    def standing(self):
        return [number for number, _, _ in self.trail]

    def come_up(self, integer):
        """Note the next integer of the course; return it, or the told one."""
        if self.told is not None:
            integer = self.told[len(self.course)]
        self.course.append(integer)
        return integer

    def do_all(self, steps, number):
        for step in steps:
            number = getattr(self, "do_" + step[0])(number, *step[1:])
        return number

    def position(self, scale, stretch, figure):
        if figure == "left":
            return Fraction(0)
        if figure == "right":
            return Fraction(1)
        turns, fold, _ = self.scales[scale]
        mantissa = Fraction(*figure) if isinstance(figure, tuple) else self.notes[figure]
        turned = mantissa - fold if turns > 0 else fold - mantissa
        down = floor(turned) if isinstance(figure, tuple) else self.come_up(0 if turned >= 0 else -1)
        return (stretch + turned - down) / abs(turns)

    def way(self, length):
        return self.come_up(-1 if length < 0 else 1 if length > 1 else 0)

    def stands(self, number):
        self.trail.append((number, pair(self.hairline), pair(self.offset)))
        return number + 1

    def do_line(self, number, scale, stretch, figure):
        length = self.position(scale, stretch, figure) + self.faults.get(number, 0)
        if self.scales[scale][2]:
            length += self.offset
            if self.way(length) != 0:
                raise GoesOff(number)
        self.hairline = length
        return self.stands(number)

    def do_slide(self, number, scale, stretch, figure):
        self.offset = self.hairline - self.position(scale, stretch, figure) + self.faults.get(number, 0)
        side = (self.offset > 0) - (self.offset < 0)
        if self.signs:
            self.come_up(side)
        self.seen[number] = side
        return self.stands(number)

    def do_read(self, number, scale, name):
        turns, fold, slides = self.scales[scale]
        length = self.hairline - (self.offset if slides else 0)
        if slides and self.way(length) != 0:
            raise GoesOff(number)
        figure = turns * length + fold
        decade = self.come_up(floor(figure))
        self.seen[number] = decade
        self.reading = self.notes[name] = figure - decade
        return self.stands(number)

    def do_try(self, number, first, second):
        kept = (self.hairline, self.offset, dict(self.notes), list(self.trail), dict(self.seen), self.reading)
        middle = number + 1 + len(written(first))
        try:
            self.do_all(first, number + 1)
        except GoesOff:
            self.hairline, self.offset, self.notes, self.trail, self.seen, self.reading = kept
            self.do_all(second, middle)
        return middle + len(written(second))

    def feature(self, word, number):
        """The value of a feature in this run."""
        if number not in self.seen:
            return 0
        seen = self.seen[number]
        return {"left": int(seen < 0), "right": int(seen > 0), "decade": seen}[word]


def written(steps):
    """All steps in the order of their numbers."""
    found = []
    for step in steps:
        found.append(step)
        if step[0] == "try":
            found.extend(written(step[1]) + written(step[2]))
    return found


def features_of(steps):
    """All features of a working."""
    found = []
    for number, step in enumerate(written(steps)):
        if step[0] == "slide":
            found.extend([("left", number), ("right", number)])
        if step[0] == "read":
            found.append(("decade", number))
    return found


def wish_sum(wish, operands):
    """The sum of a wish."""
    return sum(factor * Fraction(*operands[name]) for name, factor in wish[1]) + Fraction(*wish[2])


def is_met(wish, reading, operands):
    """Whether a reading meets a wish."""
    return (wish[0] * Fraction(reading) - wish_sum(wish, operands)).denominator == 1


def even_mantissa(chance, bottoms=BOTTOMS):
    """A mantissa with a small bottom, so that several of them often come to an integer."""
    bottom = chance.choice(bottoms)
    return pair(Fraction(chance.randrange(bottom), bottom))


def even_operands(chance, names):
    return {name: even_mantissa(chance) for name in names}


def odd_operands(chance, names):
    """Operands that are hardly ever just on a bound."""
    return {name: pair(Fraction(chance.randrange(10 ** 6), 10 ** 6 + 3)) for name in names}


def wall_operands(chance, names, forms):
    """Operands at which one of the forms is 0, if that can be had by changing one of them."""
    operands = even_operands(chance, names) if chance.random() < 0.5 else odd_operands(chance, names)
    form = chance.choice(forms)
    if form.names:
        name = chance.choice(form.names)
        value = Fraction(*operands[name]) - Fraction(*form(operands)) / Fraction(*form.factor(name))
        if 0 <= value < 1:
            operands[name] = pair(value)
    return operands


def any_operands(chance, names, forms=()):
    """Operands of all these kinds."""
    if forms and chance.random() < 0.5:
        return wall_operands(chance, names, forms)
    return even_operands(chance, names) if chance.random() < 0.6 else odd_operands(chance, names)


def any_rule(chance):
    """A rule with two to four scales, at least one on the body and one on the slide."""
    names = chance.sample(("A", "B", "C", "D", "CI", "KLM"), chance.randint(2, 4))
    scales = []
    for name in names:
        fold = even_mantissa(chance) if chance.random() < 0.4 else (0, 1)
        scales.append((name, chance.choice((-3, -2, -1, 1, 1, 2, 3)), fold))
    at = chance.randint(1, len(scales) - 1)
    return Rule(tuple(scales[:at]), tuple(scales[at:]))


def changed(chance, rule, steps, names):
    """A working that differs from this one by one step or so, if one can be had."""
    for _ in range(30):
        new, at = list(steps), chance.randrange(len(steps))
        kind = chance.randrange(6)
        if kind == 0:
            new[at] = any_setting(chance, rule, names, ())
        elif kind == 1:
            new.insert(at, any_setting(chance, rule, names, ()))
        elif kind == 2:
            del new[at]
        elif kind == 3:
            new.insert(at, ("read", rule.body[0][0], "kk"))
        elif kind == 4:
            new[at] = ("try", (new[at],), chance.choice(((), (new[at],), (any_setting(chance, rule, names, ()),))))
        else:
            new[at:at + 2] = new[at:at + 2][::-1]
        if working_error(tuple(new)) is None and misfit(rule, tuple(new)) is None:
            return tuple(new)
    return steps


def any_setting(chance, rule, names, known):
    """A line or slide step."""
    word = chance.choice(("line", "line", "slide"))
    scale, turns, _ = chance.choice(rule.slide if word == "slide" or chance.random() < 0.5 else rule.body + rule.slide)
    kind = chance.random()
    if kind < 0.15:
        return (word, scale, 0, chance.choice(("left", "right")))
    figure = even_mantissa(chance) if kind < 0.25 or not names else chance.choice(names)
    if known and chance.random() < 0.3:
        figure = chance.choice(known)
    return (word, scale, chance.randrange(abs(turns)), figure)


def any_part(chance, rule, names, known, many, depth):
    """At most so many steps, and what is known behind them."""
    found, known = [], list(known)
    while len(written(found)) < many:
        room = many - len(written(found))
        kind = chance.random()
        if kind < 0.25 and depth < 2 and room >= 2:
            size = chance.randint(1, min(4, room - 1))
            first, ahead = any_part(chance, rule, names, known, size, depth + 1)
            size = chance.randint(0, min(3, room - 1 - len(written(first))))
            second, behind = any_part(chance, rule, names, known, size, depth + 1)
            found.append(("try", first, second))
            known = [name for name in ahead if name in behind]
        elif kind < 0.4:
            name = chance.choice("xyzabc") + chance.choice(("", "n", "q"))
            if name not in known and name not in names:
                found.append(("read", chance.choice(rule.body + rule.slide)[0], name))
                known.append(name)
        else:
            found.append(any_setting(chance, rule, names, known))
    return tuple(found), known


def any_working(chance, rule, many=10, names="xyz"):
    """A working of so many steps that fits the rule, with operands among these names."""
    while True:
        begun = ()
        if names and many > 4 and chance.random() < 0.6:
            # With the slide drawn out much goes off.
            one, other = chance.choice(names), chance.choice(names)
            begun = (("line", rule.body[0][0], 0, one), ("slide", rule.slide[0][0], 0, other))
        part, _ = any_part(chance, rule, names, (), many - 1 - len(begun), 0)
        steps = (*begun, *part, ("read", chance.choice(rule.body + rule.slide)[0], "out"))
        if part and chance.random() < 0.2:
            # Sometimes this ends already, in both parts of a try.
            steps = (*begun, *part)
        if working_error(steps) is None and misfit(rule, steps) is None:
            return steps


def any_wish(chance, names, times=None):
    """A wish with some of these names."""
    chosen = sorted(chance.sample(sorted(names), chance.randint(0, len(names))))
    factors = tuple((name, chance.choice((-3, -2, -1, 1, 1, 2, 3))) for name in chosen)
    constant = even_mantissa(chance) if chance.random() < 0.3 else (0, 1)
    return (times or chance.randint(1, 3), factors, constant)
