"""Runs: what a work or a mend does on a disk, and what its falls leave."""

from fallways.errors import BadFall, NoMoment
from fallways.hands import perform
from fallways.moments import moments_of
from fallways.values import is_integer


class Run:
    """A run of the work or of the mend of a plan, to its end."""

    def __init__(self, function, disk, plan, spared_steps, flush_places):
        self._steps, self._notes, self._end = perform(function, disk, plan.longest)
        self._moments = moments_of(disk, self._steps, spared_steps, flush_places)
        self._torn = plan.torn

    @staticmethod
    def of(plan):
        """Run the work from the plan's first disk."""
        return Run(plan.work, plan.start(), plan, plan.spared_steps, plan.flush_places)

    @staticmethod
    def mending(plan, disk):
        """Run the mend from a disk."""
        return Run(plan.mend, disk, plan, (), ())

    def steps(self):
        """List the steps, as pairs (wish, answer)."""
        return list(self._steps)

    def end(self):
        """Tell the end: a pair ("told", value) or ("failed", value)."""
        return self._end

    def said(self):
        """Tell the tuple of what was said."""
        return self.said_by(len(self._steps))

    def pages_at(self, moment):
        """Tell the pages as a look would find them at a moment."""
        return self._moment(moment).pages

    def flushed_at(self, moment):
        """Tell the disk at the last flush by a moment, or at the beginning."""
        return self._moment(moment).synced

    def said_by(self, moment):
        """Tell the tuple of what was said by a moment."""
        self._check_moment(moment)
        return tuple(value for done, value in self._notes if done <= moment)

    def epochs_at(self, moment):
        """List the epochs of the late puts at a moment, each a list of pairs (page, value)."""
        return [list(epoch) for epoch in self._moment(moment).epochs]

    def kept_at(self, moment):
        """List all that a fall at a moment can keep, ascending."""
        return [kept for kept, _, _ in self._ways_at(moment)]

    def left_by(self, fall):
        """Tell the disk that a fall leaves."""
        if self._has_form_of_fall(fall):
            for kept, disk, _ in self._ways_at(fall[0]):
                if kept == fall[1]:
                    return disk
        raise BadFall(fall)

    def lefts(self):
        """List pairs (disk, fall) of all disks that falls leave, each with its least fall, by the falls."""
        seen = set()
        rows = []
        for fall, disk, sign in self.falls():
            if sign not in seen:
                seen.add(sign)
                rows.append((disk, fall))
        return rows

    def falls(self):
        """List all falls, ascending, as triples (fall, disk left, mark of that disk)."""
        rows = []
        for moment in range(len(self._moments)):
            rows.extend(self.falls_at(moment))
        return rows

    def falls_at(self, moment):
        """List the falls at a moment, ascending, in the same way."""
        return [((moment, kept), disk, sign) for kept, disk, sign in self._ways_at(moment)]

    def pages_at_end(self):
        """Tell the pages as a look would find them at the end."""
        return self._moments[-1].pages

    def _check_moment(self, moment):
        if not self._is_moment(moment):
            raise NoMoment(moment)

    def _is_moment(self, thing):
        return is_integer(thing) and 0 <= thing < len(self._moments)

    def _moment(self, moment):
        self._check_moment(moment)
        return self._moments[moment]

    def _ways_at(self, moment):
        return self._moment(moment).ways(self._torn)

    def _has_form_of_fall(self, thing):
        # Checked before any comparison: a truth equals an integer, and what is no integer may equal anything.
        if not isinstance(thing, tuple) or len(thing) != 2 or not self._is_moment(thing[0]):
            return False
        return isinstance(thing[1], tuple) and all(_has_form_of_kept_page(pair) for pair in thing[1])


def _has_form_of_kept_page(thing):
    return isinstance(thing, tuple) and len(thing) == 2 and is_integer(thing[0]) and is_integer(thing[1])
