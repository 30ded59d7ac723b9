"""Many plans by chance, told by the package and by the slow model: promises [15] to [35] and [37], [38]."""

import unittest
from itertools import chain, combinations

from fallways.asks import every, first, not_settled, not_whole, some
from fallways.errors import BadFall
from fallways.histories import disks, is_closed, left, outcome, outcomes
from fallways.repairs import flushed, guards, least_flushes, least_guards, spared
from fallways.runs import Run
from checks import Checks
from model import ModelPlan, ModelRun, some_plan

SEEDS = range(120)


def parts(things):
    return chain.from_iterable(combinations(things, size) for size in range(len(things) + 1))


def shorter(pairs, longest):
    return [pair for pair in pairs if len(pair[1]) <= longest]


def once_each(pairs):
    """The pairs (thing, history), the same thing only with its first history."""
    found = {}
    for thing, history in pairs:
        found.setdefault(repr(thing), (thing, history))
    return list(found.values())


class Runs(Checks):
    def check(self, run, model):
        self.like(run.steps(), model.steps)
        self.like(run.end(), model.end)
        self.like(run.said(), tuple(value for _, value in model.notes))
        for moment in model.moments():
            self.like(run.pages_at(moment), model.pages_at(moment))
            self.like(run.flushed_at(moment), model.flushed_at(moment))
            self.like(run.epochs_at(moment), [list(epoch) for epoch in model.epochs_at(moment)])
            self.like(run.said_by(moment), model.said_by(moment))
            falls = model.falls_at(moment)
            self.like(run.kept_at(moment), sorted(falls))
            for kept, disk in falls.items():
                self.like(run.left_by((moment, kept)), disk)
        wanted = once_each([(disk, fall) for fall, disk in model.falls()])
        self.like(run.lefts(), wanted)

    def test_runs_of_works_and_mends(self):
        for seed in SEEDS:
            plan = some_plan(seed)
            self.check(Run.of(plan), ModelRun(plan.work, plan.start(), plan.torn))
            for disk, _ in disks(plan)[:3]:
                self.check(Run.mending(plan, disk), ModelRun(plan.mend, disk, plan.torn))

    def test_what_is_not_kept_is_no_fall(self):
        for seed in SEEDS:
            plan = some_plan(seed, 5)
            run, model = Run.of(plan), ModelRun(plan.work, plan.start(), plan.torn)
            for moment in model.moments():
                falls = model.falls_at(moment)
                for kept in falls:
                    for change in ((1, 0), (0, 1), (-1, 0), (0, -1)):
                        other = ((kept[0][0] + change[0], kept[0][1] + change[1]), *kept[1:])
                        if other not in falls:
                            self.assertRaises(BadFall, run.left_by, (moment, other))

    def test_spared_guards_and_flushes_put_in(self):
        for seed in SEEDS:
            plan = some_plan(seed)
            many = len(Run.of(plan).steps())
            for choice in ([], guards(plan)[::2], guards(plan)[1:], guards(plan)):
                places = range(seed % 2, many, 3)
                one = flushed(spared(plan, choice), list(places))
                other = spared(flushed(plan, tuple(places)), choice)
                model = ModelRun(plan.work, plan.start(), plan.torn, choice, places)
                self.check(Run.of(one), model)
                self.check(Run.of(other), model)


class Histories(Checks):
    @classmethod
    def setUpClass(cls):
        cls.rows = []
        for seed in SEEDS:
            plan = some_plan(seed, 7)
            model = ModelPlan(plan)
            many = len(model.work.falls())
            longest = 3 if many < 8 else 2 if many < 16 else 1
            cls.rows.append((plan, model, longest, model.histories(longest)))

    def test_disks(self):
        for plan, _, longest, histories in self.rows:
            wanted = once_each([(disk, history) for history, disk in histories])
            self.like(shorter(disks(plan), longest), wanted)

    def test_outcomes(self):
        for plan, model, longest, histories in self.rows:
            wanted = once_each([(model.outcome(*row), row[0]) for row in histories])
            self.like(shorter(outcomes(plan), longest), wanted)

    def test_each_history(self):
        for plan, model, _, histories in self.rows:
            for history, disk in histories[::7]:
                self.like(left(plan, history), disk)
                self.like(left(plan, tuple(history)), disk)
                self.like(outcome(plan, history), model.outcome(history, disk))

    def test_longer_histories_lead_where_they_are_told_to(self):
        for plan, _, longest, _ in self.rows:
            for disk, history in disks(plan):
                self.like(left(plan, history), disk)
            for told, history in outcomes(plan):
                self.like(outcome(plan, history), told)
            keys = [(len(history), history) for _, history in disks(plan)]
            self.assertEqual(keys, sorted(keys))
            keys = [(len(history), history) for _, history in outcomes(plan)]
            self.assertEqual(keys, sorted(keys))

    def test_all_or_nothing(self):
        for plan, model, longest, histories in self.rows:
            def mended(disk):
                run = model.mend(disk)
                return run.pages_at(len(run.steps))

            before = mended(plan.start())
            after = mended(model.work.pages_at(len(model.work.steps)))
            whole, settled = [], []
            for history, disk in histories[1:]:
                pages = mended(disk)
                if repr(pages) not in (repr(before), repr(after)):
                    whole.append(history)
                if repr(mended(pages)) != repr(pages):
                    settled.append(history)
            for told, wanted in ((not_whole(plan), whole), (not_settled(plan), settled)):
                if told is None or len(told) > longest:
                    self.assertEqual(wanted, [])
                else:
                    self.assertEqual(told, wanted[0])

    def test_is_closed_as_of_its_words(self):
        for plan, model, _, _ in self.rows:
            rows = [disk for disk, _ in disks(plan)]
            self.assertIs(is_closed(plan, rows[::-1] + rows[:2]), True)
            for at, _ in enumerate(rows):
                less = rows[:at] + rows[at + 1:]
                held = {repr(disk) for disk in less}
                reached = [disk for _, disk in model.work.falls()]
                for disk in less:
                    reached.extend(disk for _, disk in model.falls_of(disk))
                self.assertIs(is_closed(plan, tuple(less)), all(repr(disk) in held for disk in reached))

    def test_a_mend_that_does_nothing(self):
        for plan, model, _, _ in self.rows:
            idle = type(plan)(plan.work, pages=dict(plan.start()), torn=plan.torn)
            self.assertLessEqual(max(len(history) for _, history in outcomes(idle)), 1)
            pages = {repr(told[2]) for told, history in outcomes(idle)}
            self.assertEqual(pages, {repr(disk) for _, disk in model.work.falls()})


class Asks(Checks):
    def test_tests_of_all_outcomes(self):
        for seed in SEEDS:
            plan = some_plan(seed)
            pairs = outcomes(plan)
            for choice in ([], [0], [len(pairs) - 1], range(1, len(pairs), 2), range(len(pairs))):
                good = {repr(pairs[at][0]) for at in choice}

                def test(told):
                    return repr(told) in good

                self.assertIs(every(plan, test), len(good) == len(pairs))
                self.assertIs(some(plan, test), len(good) > 0)
                wanted = [history for told, history in pairs if repr(told) in good]
                self.assertEqual(first(plan, test), wanted[0] if wanted else None)


class Repairs(Checks):
    def bad_ones(self, plan, lost):
        """Some tests, among them such as are True only for some of the outcomes that are lost."""
        whole = [repr(told) for told, _ in outcomes(plan)]
        kept = [repr(told) for told, _ in outcomes(lost)]
        rare = [word for word in whole if word not in kept]
        return [
            lambda told, bad=tuple(bad): repr(told) in bad
            for bad in (rare[:1], rare[-1:], rare[::2], rare, whole[1:], whole[:1])
        ]

    def least(self, things, shuts_out):
        good = [set(choice) for choice in parts(things) if shuts_out(choice)]
        least = [sorted(choice) for choice in good if not any(other < choice for other in good)]
        return sorted(least, key=lambda choice: (len(choice), choice))

    def test_least_guards(self):
        for seed in SEEDS:
            plan = some_plan(seed, 11)
            known = guards(plan)
            if len(known) > 4:
                continue
            for bad in self.bad_ones(spared(plan, known), plan):
                def shuts_out(choice):
                    others = [guard for guard in known if guard not in choice]
                    return not any([bad(told) for told, _ in outcomes(spared(plan, others))])

                self.assertEqual(least_guards(plan, bad), self.least(known, shuts_out))

    def test_least_flushes(self):
        for seed in SEEDS:
            plan = some_plan(seed, 11)
            many = len(Run.of(plan).steps())
            places = list(range(seed % 3, many, 1 + many // 4))[:4]
            for bad in self.bad_ones(plan, flushed(plan, places)):
                def shuts_out(choice):
                    return not any([bad(told) for told, _ in outcomes(flushed(plan, list(choice)))])

                wanted = self.least(places, shuts_out)
                self.assertEqual(least_flushes(plan, places[::-1] + places, bad), wanted)

    def test_a_guard_more_leaves_nothing_more(self):
        for seed in SEEDS:
            plan = some_plan(seed, 11)
            held = {repr(disk) for disk, _ in disks(plan)}
            for guard in guards(plan):
                less = {repr(disk) for disk, _ in disks(spared(plan, [guard]))}
                self.assertLessEqual(held, less)
            for place in range(len(Run.of(plan).steps())):
                more = {repr(disk) for disk, _ in disks(flushed(plan, [place]))}
                self.assertLessEqual(more, held)


if __name__ == "__main__":
    unittest.main()
