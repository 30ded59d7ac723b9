"""Plans: a work, a mend, and the pages that they write."""

from fallways.errors import BadLimit, BadName, BadValue
from fallways.values import is_integer, is_value

LETTERS_OF_WORD = 8
HIGHEST_LONGEST = 60
HIGHEST_MOST = 2000


class Plan:
    """A work, a mend, the pages that are on the disk at first, and the limits."""

    def __init__(self, work, mend=None, *, pages, torn=(), longest=40, most=400):
        _check_names(pages)
        _check_torn(torn, pages)
        _check_values(pages)
        _check_limit(longest, HIGHEST_LONGEST)
        _check_limit(most, HIGHEST_MOST)
        self.work = work
        self.mend = _rest if mend is None else mend
        self.torn = tuple(sorted(torn))
        self.longest = longest
        self.most = most
        self.spared_steps = ()
        self.flush_places = ()
        self._start = tuple((name, pages[name]) for name in sorted(pages))

    def names(self):
        """List the names of all pages, ascending."""
        return [pair[0] for pair in self._start]

    def start(self):
        """Tell the disk at first."""
        return self._start

    def altered(self, spared_steps, flush_places):
        """Make a plan like this one but for the work's spared steps, and those that a flush is put in behind."""
        plan = Plan(
            self.work, self.mend, pages=dict(self._start), torn=self.torn, longest=self.longest, most=self.most
        )
        plan.spared_steps = tuple(sorted(set(spared_steps)))
        plan.flush_places = tuple(sorted(set(flush_places)))
        return plan


def _rest(hand):
    """Do nothing: the mend of a plan that was given none."""
    return None


def _check_names(pages):
    for name in pages:
        if not _is_word(name):
            raise BadName(name)


def _is_word(name):
    if not isinstance(name, str) or not 1 <= len(name) <= LETTERS_OF_WORD:
        return False
    # Not islower(): it takes small letters of all other alphabets, too.
    return all("a" <= sign <= "z" for sign in name)


def _check_torn(torn, pages):
    stood = {}
    for name in torn:
        # What is no string may be no key of a dict, so it is not looked up in one.
        if not isinstance(name, str) or name not in pages or name in stood:
            raise BadName(name)
        stood[name] = True


def _check_values(pages):
    for name in pages:
        if not is_value(pages[name]):
            raise BadValue(pages[name])


def _check_limit(limit, highest):
    if not is_integer(limit) or not 1 <= limit <= highest:
        raise BadLimit(limit)
