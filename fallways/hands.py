"""Hands: what a work or a mend gets, to look at pages and to put values into them."""

from fallways.errors import BadValue, Beyond, Held, NoPage
from fallways.values import is_value


class Hand:
    """The hand of one run, on a disk, of at most so many steps."""

    def __init__(self, disk, longest):
        self._pages = dict(disk)
        self._longest = longest
        self._steps = []
        self._notes = []
        self._failure = None
        self._held = False

    def look(self, page):
        """Tell the value that was put last."""
        self._check_free()
        self._check_page(page)
        self._check_room()
        answer = self._pages[page]
        self._steps.append((("look", page), answer))
        return answer

    def put(self, page, value):
        """Put a value into a page."""
        self._check_free()
        self._check_page(page)
        _check_value(value)
        self._check_room()
        self._pages[page] = value
        self._steps.append((("put", page, value), None))

    def barrier(self):
        """Let no later put reach the disk ahead of the ones so far."""
        self._check_free()
        self._check_room()
        self._steps.append((("barrier",), None))

    def flush(self):
        """Let all that was put so far reach the disk."""
        self._check_free()
        self._check_room()
        self._steps.append((("flush",), None))

    def say(self, value):
        """Note a value among what the run has said."""
        self._check_free()
        _check_value(value)
        self._notes.append((len(self._steps), value))

    def fail(self, value):
        """End the run: it has failed with the value."""
        self._check_free()
        _check_value(value)
        self._failure = ("failed", value)
        self._held = True
        raise Held()

    def _check_free(self):
        if self._held:
            raise Held()

    def _check_page(self, page):
        # What is no string may be no key of a dict, so it is not looked up in one.
        if not isinstance(page, str) or page not in self._pages:
            raise NoPage(page)

    def _check_room(self):
        if len(self._steps) >= self._longest:
            self._held = True
            raise Held()


def _check_value(value):
    if not is_value(value):
        raise BadValue(value)


def perform(function, disk, longest):
    """Run a work or a mend to its end, and tell its steps, its notes and its end.

    The steps are a list of pairs (wish, answer), the notes one of pairs
    (number of steps done by then, value that was said). Raises Beyond if the
    run becomes too long, and BadValue if the function returns what is no value.
    """
    hand = Hand(disk, longest)
    told = None
    try:
        told = function(hand)
    except Held:
        if not hand._held:
            raise
    return hand._steps, hand._notes, _end_of(hand, told)


def _end_of(hand, told):
    if not hand._held:
        _check_value(told)
        return ("told", told)
    # Held without a failure: only a wish too many does that.
    if hand._failure is None:
        raise Beyond()
    return hand._failure
