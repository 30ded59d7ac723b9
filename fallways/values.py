"""Values: what pages hold, and what functions say and tell."""


def is_value(thing):
    """Tell of any object whether it is a value."""
    if isinstance(thing, tuple):
        return all(is_value(part) for part in thing)
    return thing is None or isinstance(thing, (int, str))


def is_integer(thing):
    """Tell of any object whether it is an integer; a truth is none."""
    return isinstance(thing, int) and not isinstance(thing, bool)


def same(value, other):
    """Tell whether two values are equal and alike in kind."""
    return mark(value) == mark(other)


def mark(value):
    """Tell a tuple that two values have in common just if they are the same.

    It is flat, however deep the value is, so that it can be the key of a dict.
    """
    if isinstance(value, tuple):
        parts = ["tuple", len(value)]
        for part in value:
            parts.extend(mark(part))
        return tuple(parts)
    if isinstance(value, bool):
        return ("truth", int(value))
    if isinstance(value, int):
        return ("integer", value)
    if isinstance(value, str):
        return ("string", value)
    return ("none",)


def mark_of_disk(disk):
    """Tell a tuple that two disks of a plan have in common just if they are the same."""
    return tuple(mark(pair[1]) for pair in disk)
