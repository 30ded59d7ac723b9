"""The errors of the package.

Their messages tell nothing of what they were made with: it may be any object,
also one that cannot be written out, such as a number of many thousand digits.
"""


class FallError(ValueError):
    """What all errors of the package are, but for Held."""


class BadName(FallError):
    """A name of pages that is no word, or one in torn that is no page or stood there already."""

    def __init__(self, name):
        FallError.__init__(self, "a name that is no word, is no page, or stood there already")
        self.name = name


class BadValue(FallError):
    """An object that should be a value and is none."""

    def __init__(self, value):
        FallError.__init__(self, "an object that is no value")
        self.value = value


class BadLimit(FallError):
    """A limit of a plan that is no integer within its bounds."""

    def __init__(self, limit):
        FallError.__init__(self, "a limit that is no integer within its bounds")
        self.limit = limit


class NoPage(FallError):
    """An object that is no page's name."""

    def __init__(self, name):
        FallError.__init__(self, "an object that is no name of a page")
        self.name = name


class NoMoment(FallError):
    """An object that is no moment of a run."""

    def __init__(self, moment):
        FallError.__init__(self, "an object that is no moment of the run")
        self.moment = moment


class BadFall(FallError):
    """An object that is no fall of a run."""

    def __init__(self, fall):
        FallError.__init__(self, "an object that is no fall of its run")
        self.fall = fall


class BadGuard(FallError):
    """An object that is no guard of a plan."""

    def __init__(self, step):
        FallError.__init__(self, "an object that is no guard of the plan")
        self.step = step


class BadPlace(FallError):
    """An object that is no number of a step."""

    def __init__(self, place):
        FallError.__init__(self, "an object that is no number of a step")
        self.place = place


class NotTruth(FallError):
    """What a test returned that is neither True nor False."""

    def __init__(self, value):
        FallError.__init__(self, "a test returned neither True nor False")
        self.value = value


class Beyond(FallError):
    """A run is too long, or histories leave too many disks."""

    def __init__(self):
        FallError.__init__(self)


class Held(Exception):
    """Raised by a hand in the function that it was given to: the run is over."""

    def __init__(self):
        Exception.__init__(self)
