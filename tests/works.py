"""Works, mends and plans that several tests use."""

from fallways.plans import Plan

NONE = (0, 0)
ONE = (1, 0)


def row_work(hand):
    """The work of the document's example: a row of two pages, and a note that it is there."""
    hand.put("a", 1)
    hand.put("b", 1)
    hand.barrier()
    hand.put("done", True)


def row_mend(hand):
    if not hand.look("done"):
        hand.put("a", 0)
        hand.put("b", 0)
        hand.flush()


def row_plan(**named):
    return Plan(row_work, row_mend, pages={"a": 0, "b": 0, "done": False}, **named)


def count_work(hand):
    hand.put("a", 1)


def count_mend(hand):
    """Count up to three."""
    seen = hand.look("a")
    if seen < 3:
        hand.put("a", seen + 1)
    return seen


def count_plan(**named):
    """Its histories leave 0 to 3, each later one behind one fall more."""
    return Plan(count_work, count_mend, pages={"a": 0}, **named)


def say_work(hand):
    """One disk alone, but what was said by then is never the same."""
    hand.say("one")
    hand.look("a")
    hand.say(True)
    hand.look("a")
    hand.say(1)
    return "told"


def endless(hand):
    while True:
        hand.look("a")


def page(value):
    """The pages, or the disk, of a plan with one page a."""
    return (("a", value),)
