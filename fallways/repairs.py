"""Repairs: which guards of a work are needed, and where one more flush would shut out what is bad."""

from itertools import combinations

from fallways.asks import holds
from fallways.errors import BadGuard, BadPlace
from fallways.mends import Mends
from fallways.runs import Run
from fallways.searches import outcomes_found, search
from fallways.values import is_integer

GUARDS = (("barrier",), ("flush",))


def guards(plan):
    """List the numbers of the work's steps that are barriers or flushes and are not spared, ascending."""
    steps = Run.of(plan).steps()
    return [
        number for number, (wish, _) in enumerate(steps)
        if wish in GUARDS and number not in plan.spared_steps
    ]


def spared(plan, steps):
    """Make a plan in which these guards of the work do nothing."""
    known = guards(plan)
    for step in steps:
        if not is_integer(step) or step not in known:
            raise BadGuard(step)
    return _sparing(plan, steps)


def least_guards(plan, test):
    """List the least choices of guards that shut out all outcomes for which a test is True."""
    mends = Mends(plan)
    known = guards(plan)

    def shuts_out(choice):
        others = [guard for guard in known if guard not in choice]
        return _has_none(_sparing(plan, others), mends, test)

    return _least_choices(known, shuts_out)


def flushed(plan, places):
    """Make a plan in which a flush is put in behind these steps of the work."""
    _check_places(plan, places)
    return _flushing(plan, places)


def least_flushes(plan, places, test):
    """List the least choices of places where flushes put in shut out all outcomes for which a test is True."""
    mends = Mends(plan)
    search(plan, mends)
    _check_places(plan, places)

    def shuts_out(choice):
        return _has_none(_flushing(plan, choice), mends, test)

    return _least_choices(sorted(set(places)), shuts_out)


def _sparing(plan, steps):
    return plan.altered((*plan.spared_steps, *steps), plan.flush_places)


def _flushing(plan, places):
    return plan.altered(plan.spared_steps, (*plan.flush_places, *places))


def _check_places(plan, places):
    many = len(Run.of(plan).steps())
    for place in places:
        if not is_integer(place) or not 0 <= place < many:
            raise BadPlace(place)


def _has_none(plan, mends, test):
    # All outcomes are found ahead of the first test: Beyond goes out ahead of what tests raise.
    for told, _ in outcomes_found(plan, mends):
        if holds(test, told):
            return False
    return True


def _least_choices(things, shuts_out):
    """List the least choices of things, by their length and then in order; the first one asked about has none."""
    least = []
    for size in range(len(things) + 1):
        for choice in combinations(things, size):
            if not _has_part(choice, least) and shuts_out(choice):
                least.append(list(choice))
    return least


def _has_part(choice, others):
    return any(all(thing in choice for thing in other) for other in others)
