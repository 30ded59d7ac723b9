"""Mends: all disks that are met, and the mend of each, run once."""

from fallways.runs import Run
from fallways.values import mark, mark_of_disk


class Mended:
    """A whole mend of a disk: its end, the number of its pages, and what its falls leave."""

    def __init__(self, ending, pages, edges):
        self.ending = ending
        self.sign = mark(ending)
        self.pages = pages
        self.edges = edges


class Mends:
    """The disks, each with a number of its own, and their mends by these numbers."""

    def __init__(self, plan):
        self._plan = plan
        self._numbers = {}
        self._disks = []
        self._mended = {}

    def number_of(self, disk):
        """Tell the number of a disk; two have the same one just if they are the same."""
        return self._number(disk, mark_of_disk(disk))

    def disk(self, number):
        """Tell the disk with a number."""
        return self._disks[number]

    def mended(self, number):
        """Tell the mend of the disk with a number."""
        if number not in self._mended:
            self._mended[number] = self._mend(self._disks[number])
        return self._mended[number]

    def numbered(self, falls):
        """List pairs (fall, number of the disk left) of falls that a run tells, in their order."""
        return [(fall, self._number(disk, sign)) for fall, disk, sign in falls]

    def _number(self, disk, sign):
        if sign not in self._numbers:
            self._numbers[sign] = len(self._disks)
            self._disks.append(disk)
        return self._numbers[sign]

    def _mend(self, disk):
        run = Run.mending(self._plan, disk)
        return Mended(run.end(), self.number_of(run.pages_at_end()), _least_falls(self.numbered(run.falls())))


def _least_falls(rows):
    """Leave of the falls to each disk only the first: others lead nowhere else."""
    seen = set()
    least = []
    for fall, number in rows:
        if number not in seen:
            seen.add(number)
            least.append((fall, number))
    return least
