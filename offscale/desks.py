"""Desks: workings and wishes on a rule, all of them kept."""

from offscale.bounds import MAX_DEEDS
from offscale.claims import check_wish, joint_names, meets, names_of, runs_off
from offscale.errors import BadName, Busy, Full, Misfit, NoWorking, NothingToUndo, NotRule, Unkept
from offscale.names import is_name
from offscale.rules import Rule
from offscale.runs import check_working
from offscale.steps import misfit, operands_of


class Desk:
    """A rule, workings by names, and for some of them a wish that is kept."""

    def __init__(self, rule):
        if not isinstance(rule, Rule):
            raise NotRule()
        # The rule, the workings and the wishes. The dicts are replaced and never changed, so that what the
        # desk was ahead of each deed in effect can be kept as it is.
        self._now = (rule, {}, {})
        self._past = ()
        self._busy = False

    @property
    def rule(self):
        """The rule."""
        return self._now[0]

    @property
    def names(self):
        """The names of the workings, ascending."""
        return tuple(sorted(self._now[1]))

    @property
    def version(self):
        """The number of deeds in effect."""
        return len(self._past)

    def change_rule(self, other):
        """Do all workings on another rule from now on; return the new version."""
        if not isinstance(other, Rule):
            raise NotRule()
        _, workings, wishes = self._now
        for name in self.names:
            wrong = misfit(other, workings[name])
            if wrong is not None:
                number, word = wrong
                raise Misfit(number, word)
        return self._change(self.names, (other, workings, wishes))

    def __getitem__(self, name):
        if name not in self:
            raise NoWorking(name)
        return self._now[1][name]

    def __setitem__(self, name, steps):
        rule, workings, wishes = self._now
        if not is_name(name):
            raise BadName(name)
        check_working(rule, steps)
        if name in wishes:
            joint_names(operands_of(steps), names_of(wishes[name]))
        self._change((name,), (rule, {**workings, name: steps}, wishes))

    def __iter__(self):
        raise TypeError("a desk is not iterated over")

    def drop(self, name):
        """Remove a working and its wish; return the new version."""
        if name not in self:
            raise NoWorking(name)
        rule, workings, wishes = self._now
        return self._change((), (rule, _without(workings, name), _without(wishes, name)))

    def wish(self, name, wish=None):
        """Set the wish of a working, or remove it; return the new version."""
        steps = self[name]
        rule, workings, wishes = self._now
        if wish is None:
            return self._change((), (rule, workings, _without(wishes, name)))
        check_wish(wish)
        joint_names(operands_of(steps), names_of(wish))
        return self._change((name,), (rule, workings, {**wishes, name: wish}))

    def wish_of(self, name):
        """Return the wish of a working, None if it has none."""
        if name not in self:
            raise NoWorking(name)
        return self._now[2].get(name)

    def undo(self):
        """Take back the last deed in effect; return the new version."""
        if self._busy:
            raise Busy()
        if not self._past:
            raise NothingToUndo()
        self._now = self._past[-1]
        self._past = self._past[:-1]
        return self.version

    def together(self, function):
        """Call function with this desk, and make one deed of all that it does; return the new version."""
        if self._busy:
            raise Busy()
        now = self._now
        past = self._past
        self._busy = True
        try:
            function(self)
            if self.version > len(past):
                past = (*past, now)
            now = self._now
        finally:
            # Where the function raised an exception, this is what was ahead of it.
            self._now, self._past, self._busy = now, past, False
        return self.version

    def __contains__(self, name):
        return is_name(name) and name in self._now[1]

    def __len__(self):
        return len(self._now[1])

    def __eq__(self, other):
        return isinstance(other, Desk) and self._now == other._now

    def __str__(self):
        _, workings, wishes = self._now
        return f"{len(workings)} workings, {len(wishes)} wishes, {len(self._past)} deeds"

    def _change(self, names, now):
        """Do a deed after which the desk is as told by now, if the wishes of these names are kept then."""
        if self.version >= MAX_DEEDS:
            raise Full()
        rule, workings, wishes = now
        for name in names:
            if name in wishes and not _is_kept(rule, workings[name], wishes[name]):
                raise Unkept(name)
        self._past = (*self._past, self._now)
        self._now = now
        return self.version


def _is_kept(rule, steps, wish):
    """Tell whether a working reads at all operands, and all its readings meet the wish."""
    return runs_off(rule, steps) is None and meets(rule, steps, wish) is None


def _without(table, name):
    """Return a copy of a dict without a name."""
    return {other: table[other] for other in table if other != name}
