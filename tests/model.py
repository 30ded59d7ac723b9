"""A slow model of the document, made in another way than the package, and plans by chance to try both on.

Two values are the same just if repr tells them alike.
"""

import random
from itertools import product

from fallways.plans import Plan

VALUES = [0, 1, True, False, None, "a", (0, 1), (1, 0), (True, 1), (2, 2, 2), (0, 1, (5,)), (0, 0, 0)]


class Stop(Exception):
    """A run of the model has failed with a value."""


class ModelHand:
    def __init__(self, disk):
        self.pages = dict(disk)
        self.steps = []
        self.notes = []

    def look(self, page):
        self.steps.append((("look", page), self.pages[page]))
        return self.pages[page]

    def put(self, page, value):
        self.steps.append((("put", page, value), None))
        self.pages[page] = value

    def barrier(self):
        self.steps.append((("barrier",), None))

    def flush(self):
        self.steps.append((("flush",), None))

    def say(self, value):
        self.notes.append((len(self.steps), value))

    def fail(self, value):
        raise Stop(value)


class ModelRun:
    """A run of a function that takes no Held, and its falls straight from [15] to [18]."""

    def __init__(self, function, disk, torn=(), spared=(), places=()):
        hand = ModelHand(disk)
        try:
            self.end = ("told", function(hand))
        except Stop as stop:
            self.end = ("failed", stop.args[0])
        self.disk, self.torn, self.notes, self.steps = disk, torn, hand.notes, hand.steps
        self.events = [[] for _ in hand.steps]
        for number, (wish, _) in enumerate(hand.steps):
            if number not in spared:
                self.events[number].append(wish)
            if number in places:
                self.events[number].append(("flush",))

    def moments(self):
        return range(len(self.steps) + 1)

    def said_by(self, moment):
        return tuple(value for done, value in self.notes if done <= moment)

    def pages_at(self, moment):
        pages = dict(self.disk)
        for wish, _ in self.steps[:moment]:
            if wish[0] == "put":
                pages[wish[1]] = wish[2]
        return tuple(sorted(pages.items()))

    def events_by(self, moment):
        return [wish for row in self.events[:moment] for wish in row]

    def late_from(self, moment):
        """The number of the first event behind the last flush."""
        events = self.events_by(moment)
        return max((at + 1 for at, wish in enumerate(events) if wish == ("flush",)), default=0)

    def flushed_at(self, moment):
        pages = dict(self.disk)
        for wish in self.events_by(moment)[:self.late_from(moment)]:
            if wish[0] == "put":
                pages[wish[1]] = wish[2]
        return tuple(sorted(pages.items()))

    def epochs_at(self, moment):
        epochs = [[]]
        for wish in self.events_by(moment)[self.late_from(moment):]:
            if wish == ("barrier",):
                epochs.append([])
            elif wish[0] == "put":
                epochs[-1].append(wish[1:])
        return epochs

    def falls_at(self, moment):
        """A dict from all that can be kept to the disk that is left, in no order."""
        epochs = self.epochs_at(moment)
        base = self.flushed_at(moment)
        puts = {name: [] for name, _ in base}
        for number, epoch in enumerate(epochs):
            for name, value in epoch:
                puts[name].append((number, value))
        # No tuple of VALUES has more than three things.
        choices = [
            [(count, part) for count in range(len(puts[name]) + 1) for part in range(4)]
            for name, _ in base
        ]
        found = {}
        for kept in product(*choices):
            for number in range(len(epochs) + 1):
                disk = [
                    self.page_left(name, value, puts[name], number, pair)
                    for (name, value), pair in zip(base, kept)
                ]
                if None not in disk:
                    found[kept] = tuple(disk)
        return found

    def page_left(self, name, value, puts, number, pair):
        """The page behind a fall that keeps all epochs ahead of this one, and some of this one, or None."""
        count, part = pair
        for at, (epoch, worth) in enumerate(puts):
            if at < count and epoch > number or at >= count and epoch < number:
                return None
            if at < count:
                value = worth
        if part == 0:
            return name, value
        if name not in self.torn or count == len(puts) or puts[count][0] != number:
            return None
        worth = puts[count][1]
        if type(worth) is not tuple or type(value) is not tuple or len(worth) != len(value):
            return None
        if part >= len(worth):
            return None
        return name, worth[:part] + value[part:]

    def falls(self):
        """All pairs (fall, disk), ascending by the falls."""
        return [
            ((moment, kept), disk) for moment in self.moments()
            for kept, disk in sorted(self.falls_at(moment).items())
        ]


class ModelPlan:
    """The runs of a plan by the model, each disk mended once, and its histories one by one."""

    def __init__(self, plan, spared=(), places=()):
        self.plan = plan
        self.work = ModelRun(plan.work, plan.start(), plan.torn, spared, places)
        self.mends = {}

    def mend(self, disk):
        if repr(disk) not in self.mends:
            self.mends[repr(disk)] = ModelRun(self.plan.mend, disk, self.plan.torn)
        return self.mends[repr(disk)]

    def falls_of(self, disk):
        run = self.mend(disk)
        if not hasattr(run, "all_falls"):
            run.all_falls = run.falls()
        return run.all_falls

    def histories(self, longest):
        """All histories of at most so many falls, as lists, each with the disk that it leaves, in their order."""
        told = [([], self.plan.start())]
        rows = [([fall], disk) for fall, disk in self.work.falls()]
        for _ in range(longest):
            told.extend(rows)
            rows = [
                (history + [fall], left) for history, disk in rows for fall, left in self.falls_of(disk)
            ]
        return told

    def outcome(self, history, disk):
        end = self.work.moments()[-1]
        if not history:
            return self.work.said_by(end), self.work.end, self.work.pages_at(end)
        run = self.mend(disk)
        return self.work.said_by(history[0][0]), run.end, run.pages_at(run.moments()[-1])


def work_of(ops):
    """The function that does these things, one behind another."""
    def work(hand):
        return do(hand, ops)

    return work


def do(hand, ops):
    for word, *told in ops:
        if word == "when":
            page, value, others = told
            if repr(hand.look(page)) == repr(value):
                do(hand, others)
        elif word == "copy":
            hand.put(told[1], hand.look(told[0]))
        elif word == "turn":
            page, worths = told
            held = [repr(value) for value in worths]
            seen = repr(hand.look(page))
            hand.put(page, worths[held.index(seen) - 1 if seen in held else 0])
        elif word == "tell":
            hand.say(hand.look(told[0]))
        elif word == "end":
            return told[0]
        else:
            getattr(hand, word)(*told)
    return None


def some_op(chance, names, worths, depth):
    page, value = chance.choice(names), chance.choice(worths)
    word = chance.choice(
        ["put"] * 6 + ["copy", "turn", "look", "say", "tell", "end", "fail"] + ["barrier", "flush"] * 2 + ["when"] * 2
    )
    if word == "when":
        others = [some_op(chance, names, worths, depth - 1) for _ in range(2)] if depth else []
        return word, page, value, others
    told = {
        "put": (page, value), "copy": (page, chance.choice(names)), "look": (page,), "tell": (page,),
        "turn": (page, worths),
        "say": (value,), "end": (value,), "fail": (value,),
    }
    return word, *told.get(word, ())


def some_ops(chance, names, worths, many):
    ops = [some_op(chance, names, worths, 1) for _ in range(many)]
    # What ends a run early is only now and then to stand ahead of its last thing.
    return [op for at, op in enumerate(ops) if op[0] not in ("end", "fail") or at == many - 1 or chance.random() < 0.1]


def some_plan(seed, most_ops=9):
    """A plan by chance, the same one for the same seed."""
    chance = random.Random(seed)
    names = ["a", "b", "c"][:chance.choice([1, 2, 2, 3])]
    worths = chance.sample(VALUES, 3) + chance.choice([[(0, 1), (1, 0)], [(2, 2, 2), (0, 0, 0)], [0, False]])
    work = work_of(some_ops(chance, names, worths, chance.randint(3, most_ops)))
    mend = work_of(some_ops(chance, names, worths, chance.randint(1, 4)))
    return Plan(
        work, chance.choice([mend, mend, mend, mend, work, None]),
        pages={name: chance.choice(worths) for name in chance.sample(names, len(names))},
        torn=[name for name in names if chance.random() < 0.7], most=2000,
    )
