"""Falls: what they can keep of the late puts, and what they leave on the disk."""

from fallways.values import mark


def ways_to_fall(disk, epochs, torn):
    """List what a fall can keep, ascending, as triples (kept, disk left, mark of that disk).

    The disk is what the last flush left, and the epochs have the late puts as pairs (page, value).
    """
    rows = [[_way(0, 0, name, value)] for name, value in disk]
    found = _combined(rows)
    for epoch in epochs:
        rows = [_ways_of_page(row[-1], epoch, torn) for row in rows]
        # To keep none of this epoch is to keep all of those before, which was the last one found.
        found.extend(_combined(rows)[1:])
    return found


def _way(count, part, name, value):
    """Tell one way that a page can be kept: the pair of kept, the pair of the disk, and the value's mark."""
    return (count, part), (name, value), mark(value)


def _ways_of_page(whole, epoch, torn):
    """List the ways that a page can be kept in an epoch, from the one with all of its puts of earlier epochs."""
    (count, _), (name, value), _ = whole
    ways = [whole]
    for page, worth in epoch:
        if page != name:
            continue
        if name in torn:
            ways.extend([_way(count, part, name, mixed) for part, mixed in _torn_parts(value, worth)])
        count += 1
        value = worth
        ways.append(_way(count, 0, name, value))
    return ways


def _torn_parts(value, worth):
    """List pairs (number of things, value) of what is left where a put is kept in part over an elder value."""
    if not isinstance(value, tuple) or not isinstance(worth, tuple) or len(value) != len(worth):
        return []
    return [(part, worth[:part] + value[part:]) for part in range(1, len(worth))]


def _combined(rows):
    """List all choices of one way for each page, ascending if the rows ascend."""
    choices = [((), (), ())]
    for row in rows:
        choices = [
            (kept + (pair,), disk + (page,), marks + (sign,))
            for kept, disk, marks in choices for pair, page, sign in row
        ]
    return choices
