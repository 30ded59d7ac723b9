"""Asks: what holds of all outcomes of a plan, and the least history that shows where it does not."""

from fallways.errors import NotTruth
from fallways.histories import outcomes
from fallways.mends import Mends
from fallways.searches import search


def holds(test, told):
    """Tell whether a test of an outcome is True; it is refused if it is no truth."""
    answer = test(told)
    if answer is not True and answer is not False:
        raise NotTruth(answer)
    return answer


def every(plan, test):
    """Tell whether a test is True for all outcomes."""
    for told, _ in outcomes(plan):
        if not holds(test, told):
            return False
    return True


def some(plan, test):
    """Tell whether a test is True for one outcome."""
    return first(plan, test) is not None


def first(plan, test):
    """Tell the least history that leads to an outcome for which a test is True, or None."""
    for told, history in outcomes(plan):
        if holds(test, told):
            return history
    return None


def not_whole(plan):
    """Tell the least history by which neither nothing nor all of the work is there behind the mend, or None."""
    mends = Mends(plan)
    run, spots = search(plan, mends)
    before = mends.mended(mends.number_of(plan.start())).pages
    after = mends.mended(mends.number_of(run.pages_at_end())).pages
    for spot in spots:
        if mends.mended(spot.number).pages not in (before, after):
            return list(spot.history)
    return None


def not_settled(plan):
    """Tell the least history behind whose outcome one more mend leaves other pages, or None."""
    mends = Mends(plan)
    spots = search(plan, mends)[1]
    for spot in spots:
        pages = mends.mended(spot.number).pages
        if mends.mended(pages).pages != pages:
            return list(spot.history)
    return None
