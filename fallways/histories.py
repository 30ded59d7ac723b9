"""Histories: falls one behind another, what they leave, and what comes out."""

from fallways.mends import Mends
from fallways.runs import Run
from fallways.searches import outcomes_found, search
from fallways.values import is_value


def left(plan, history):
    """Tell the disk that the last fall of a history leaves."""
    disk = plan.start()
    run = Run.of(plan)
    for number, fall in enumerate(history):
        if number > 0:
            run = Run.mending(plan, disk)
        disk = run.left_by(fall)
    return disk


def outcome(plan, history):
    """Tell the outcome of a history: a tuple (said, end, pages)."""
    run = Run.of(plan)
    said = run.said()
    disk = left(plan, history)
    if len(history) > 0:
        said = run.said_by(history[0][0])
        run = Run.mending(plan, disk)
    return said, run.end(), run.pages_at_end()


def outcomes(plan):
    """List pairs (outcome, history) of all outcomes, each with its least history, by the histories."""
    return [(told, list(history)) for told, history in outcomes_found(plan, Mends(plan))]


def disks(plan):
    """List pairs (disk, history) of all disks that histories leave, each with its least one, by these."""
    mends = Mends(plan)
    spots = search(plan, mends)[1]
    found = {mends.number_of(plan.start()): ()}
    for spot in spots:
        found.setdefault(spot.number, spot.history)
    return [(mends.disk(number), list(history)) for number, history in found.items()]


def is_closed(plan, rows):
    """Tell of any object whether it lists disks, and with them all that falls of the work and of mends leave."""
    mends = Mends(plan)
    run = search(plan, mends)[0]
    if not isinstance(rows, (list, tuple)) or not all(_is_disk(row, plan.names()) for row in rows):
        return False
    had = {mends.number_of(row): True for row in rows}
    if not _has_all(had, mends.numbered(run.falls())):
        return False
    # A loop, not a generator: an error of a mend goes on unchanged out of it, also StopIteration.
    for number in had:
        if not _has_all(had, mends.mended(number).edges):
            return False
    return True


def _has_all(had, falls):
    return all(number in had for _, number in falls)


def _is_disk(thing, names):
    """Tell of any object whether it is a disk of the pages with these names."""
    if not isinstance(thing, tuple) or len(thing) != len(names):
        return False
    return all(_is_pair(pair, name) for pair, name in zip(thing, names))


def _is_pair(thing, name):
    if not isinstance(thing, tuple) or len(thing) != 2 or not isinstance(thing[0], str):
        return False
    return thing[0] == name and is_value(thing[1])
