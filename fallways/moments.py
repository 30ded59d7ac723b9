"""Moments: what stands in the pages, and what of it a fall may still take away."""

from fallways.falls import ways_to_fall


class Moment:
    """The pages as a look finds them, the disk at the last flush, and the late puts in their epochs."""

    def __init__(self, pages, synced, epochs):
        self.pages = pages
        self.synced = synced
        self.epochs = epochs
        self._ways = None

    def ways(self, torn):
        """List the ways to fall here, as ways_to_fall tells them; the list is not to be changed."""
        # Found once: a look leaves the moment as it was, so that many moments of a run are this one.
        if self._ways is None:
            self._ways = ways_to_fall(self.synced, self.epochs, torn)
        return self._ways

    def behind(self, wish):
        """Tell the moment behind this one, once a wish is done."""
        if wish[0] == "put":
            late = (*self.epochs[-1], (wish[1], wish[2]))
            return Moment(_changed(self.pages, wish[1], wish[2]), self.synced, (*self.epochs[:-1], late))
        if wish[0] == "barrier":
            return Moment(self.pages, self.synced, (*self.epochs, ()))
        if wish[0] == "flush":
            return Moment(self.pages, self.pages, ((),))
        return self


def _changed(pages, name, value):
    return tuple((name, value) if pair[0] == name else pair for pair in pages)


def moments_of(disk, steps, spared_steps, flush_places):
    """List the moments of a run, from the disk on: one more than it has steps."""
    moment = Moment(disk, disk, ((),))
    moments = [moment]
    for number, (wish, _) in enumerate(steps):
        if number not in spared_steps:
            moment = moment.behind(wish)
        # A flush that is put in is a part of the step: no moment is between them.
        if number in flush_places:
            moment = moment.behind(("flush",))
        moments.append(moment)
    return moments
