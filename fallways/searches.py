"""Searches: all that the histories of a plan lead to, each with its least history."""

from fallways.errors import Beyond
from fallways.runs import Run
from fallways.values import mark


class Spot:
    """What histories that go on alike have in common ([24]), with the least of these histories."""

    def __init__(self, number, spoken, history):
        self.number = number
        # How many values the work has said by its fall: that many tell which ones, as it is one run.
        self.spoken = spoken
        self.history = history


class Net:
    """The spots that were met so far, in the order of their histories; at most so many."""

    def __init__(self, most):
        self.spots = []
        self._met = {}
        self._most = most

    def meet(self, number, spoken, before, fall):
        """Come to the disk with this number by a fall behind a history."""
        if (number, spoken) in self._met:
            return
        if len(self.spots) == self._most:
            raise Beyond()
        self._met[(number, spoken)] = True
        self.spots.append(Spot(number, spoken, (*before, fall)))


def search(plan, mends):
    """Ask about all histories: tell the run of the work, and list all spots, by their histories.

    Each spot was met first by its least history, as those before it are gone on from in their order.
    """
    run = Run.of(plan)
    net = Net(plan.most)
    # Moment by moment, so that a work with far too many falls is given up early.
    for moment in range(len(run.steps()) + 1):
        spoken = len(run.said_by(moment))
        for fall, number in mends.numbered(run.falls_at(moment)):
            net.meet(number, spoken, (), fall)
    gone_on = 0
    while gone_on < len(net.spots):
        spot = net.spots[gone_on]
        for fall, number in mends.mended(spot.number).edges:
            net.meet(number, spot.spoken, spot.history, fall)
        gone_on += 1
    return run, net.spots


def outcomes_found(plan, mends):
    """List pairs (outcome, history) of all outcomes of a plan, each with its least history, by the histories."""
    run, spots = search(plan, mends)
    said = run.said()
    pages = mends.number_of(run.pages_at_end())
    found = {(len(said), mark(run.end()), pages): ((said, run.end(), run.pages_at_end()), ())}
    for spot in spots:
        mended = mends.mended(spot.number)
        key = (spot.spoken, mended.sign, mended.pages)
        if key not in found:
            outcome = (said[:spot.spoken], mended.ending, mends.disk(mended.pages))
            found[key] = (outcome, spot.history)
    return list(found.values())
