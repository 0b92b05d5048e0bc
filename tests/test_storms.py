"""Many plans and knocks by chance (always the same ones): the program against a second telling of the document."""

import random
import unittest

from knockwell.bench import Bench
from knockwell.bounds import bound, masked
from knockwell.errors import BadTicks
from knockwell.plans import Plan
from knockwell.runs import run
from knockwell.texts import read, written

LINES = ["a", "b", "c", "d", "e"]
BOTTOMS = ["l", "m", "n", "o"]
THREADS = ["s", "t", "u", "v"]


def some_steps(chance, bottoms, threads, lines):
    """Right steps by chance."""
    while True:
        told, masks = [], 0
        for _ in range(chance.randint(1, chance.choice((3, 6, 12)))):
            word = chance.choice(("run", "run", "run", "mask", "open", "answer", "later", "wake"))
            if word == "run":
                told.append(("run", chance.choice((1, 1, 1, 2, 3, 9))))
            elif word == "mask":
                told.append(("mask",))
                masks += 1
            elif word == "open" and masks:
                told.append(("open",))
                masks -= 1
            elif word == "answer":
                told.append(("answer", chance.choice(lines)))
            elif word == "later" and bottoms:
                told.append(("later", chance.choice(bottoms)))
            elif word == "wake" and threads:
                told.append(("wake", chance.choice(threads)))
        if any(step[0] == "run" for step in told):
            return told


def some_plan(chance):
    """A plan by chance."""
    lines = chance.sample(LINES, chance.randint(1, 5))
    bottoms = chance.sample(BOTTOMS, chance.randint(0, 4))
    threads = chance.sample(THREADS, chance.randint(0, 4))
    ranks, thread_ranks = chance.sample(range(1, 100), 5), chance.sample(range(1, 100), 4)
    rows = []
    for name, rank in zip(lines, ranks):
        guard = (chance.randint(1, 9), chance.choice((1, 2, 5, 20, 60)), chance.choice((1, 2, 5, 20, 60)))
        rows.append((name, rank, chance.random() < 0.4, guard, some_steps(chance, bottoms, threads, lines)))
    return Plan(rows, bottoms=[(name, some_steps(chance, bottoms, threads, lines)) for name in bottoms],
                threads=[(name, rank, some_steps(chance, bottoms, threads, lines))
                         for name, rank in zip(threads, thread_ranks)])


def some_knocks(chance, plan, last):
    """Knocks by chance, some thick and some thin, up to this tick."""
    names = [row[0] for row in plan.lines()]
    many = chance.choice((1, 5, 30, 100, 400))
    ticks = sorted(chance.randint(0, last) for _ in range(many))
    return [(tick, chance.choice(names)) for tick in ticks]


def sly_knocks(chance, plan, first):
    """Knocks of devices that never knock too often, so that no guard shuts them out, from some tick on."""
    told, let_by = [], {row[0]: [] for row in plan.lines()}
    beginning = {row[0]: chance.randint(0, first) for row in plan.lines()}
    for tick in range(501):
        for name, _, _, (most, wide, _), _ in plan.lines():
            recent = [one for one in let_by[name] if one > tick - wide]
            many = chance.choice((0, 1, most)) if tick >= beginning[name] else 0
            many = min(many, most - len(recent))
            let_by[name] = recent + [tick] * many
            told.extend([(tick, name)] * many)
    return told[:400]


class Model:
    """Points 4 to 7 of the document once more, in another way: steps cut into ticks, and a list of events."""

    def __init__(self, plan, knocks, ticks):
        self.lines = {row[0]: row for row in plan.lines()}
        self.bottoms = dict(plan.bottoms())
        self.threads = {row[0]: row for row in plan.threads()}
        self.waiting, self.passed, self.shut = set(), [], set()
        self.tops, self.low, self.queue, self.begun, self.woken = [], [], [], [], []
        self.masks, self.events, self.ran, self.masks_told = 0, [], [], []
        for self.tick in range(ticks):
            for tick, name in knocks:
                if tick == self.tick:
                    self.knock(name)
            while len(self.ran) == self.tick:
                self.choose()

    def knock(self, name):
        most, wide, rest = self.lines[name][3]
        recent = [one for one in self.passed if one[1] == name and self.tick - wide < one[0] <= self.tick]
        if (self.tick, name) in self.shut:
            self.events.append(("out", self.tick, name))
        elif len(recent) >= most:
            self.shut.update((self.tick + more, name) for more in range(rest))
            self.events.append(("out", self.tick, name))
        else:
            self.passed.append((self.tick, name))
            self.events.append(("merged" if name in self.waiting else "waits", self.tick, name))
            self.waiting.add(name)

    def begin(self, place, kind, name, steps):
        units = []
        for step in steps:
            units.extend([("tick",)] * step[1] if step[0] == "run" else [step])
        place.append({"who": (kind, name), "units": units, "before": self.masks})

    def choose(self):
        if self.masks == 0:
            busy = [work["who"][1] for work in self.tops]
            floor = self.lines[busy[-1]][1] if busy else 0
            fit = sorted((self.lines[name][1], name) for name in self.waiting
                         if name not in busy and self.lines[name][1] > floor)
            if fit:
                name = fit[-1][1]
                self.events.append(("begins", self.tick, name))
                if not self.lines[name][2]:
                    self.waiting.remove(name)
                self.begin(self.tops, "top", name, self.lines[name][4])
                return
        if self.tops:
            self.step(self.tops, self.tops[-1])
        elif self.low:
            self.step(self.low, self.low[0])
        elif self.queue and self.masks == 0:
            name = self.queue.pop(0)
            self.begin(self.low, "bottom", name, self.bottoms[name])
        else:
            self.choose_thread()

    def choose_thread(self):
        begun = {work["who"][1]: work for work in self.begun}
        if self.masks:
            # Only the thread that was begun last, or went on last, can have put it on.
            self.step(self.begun, self.last)
            return
        names = sorted({*begun, *self.woken}, key=lambda name: self.threads[name][1])
        if not names:
            self.ran.append(None)
            self.masks_told.append(self.masks)
        elif names[-1] in begun:
            self.last = begun[names[-1]]
            self.step(self.begun, self.last)
        else:
            self.woken.remove(names[-1])
            self.begin(self.begun, "thread", names[-1], self.threads[names[-1]][2])

    def step(self, place, work):
        word, *told = work["units"].pop(0)
        if word == "tick":
            self.ran.append(work["who"])
            self.masks_told.append(self.masks)
        elif word in ("mask", "open"):
            self.masks += 1 if word == "mask" else -1
        elif word == "answer":
            if self.lines[told[0]][2]:
                self.waiting.discard(told[0])
        elif word == "wake":
            self.woken.append(told[0])
        elif told[0] not in self.queue:
            self.queue.append(told[0])
        if not work["units"]:
            place.remove(work)
            self.masks = work["before"]

    def sums(self):
        told = {}
        for name in self.lines:
            words = [word for word, _, line in self.events if line == name]
            told[name] = (*[words.count(word) for word in ("waits", "merged", "out", "begins")],
                          int(name in self.waiting))
        return told

    def waits(self):
        told = {}
        for name in self.lines:
            longest, since = 0, None
            for word, tick, line in self.events:
                if line == name and word == "waits":
                    since = tick
                elif line == name and word == "begins" and since is not None:
                    longest, since = max(longest, tick - since), None
            told[name] = longest
        return told

    def told(self):
        return self.ran, self.masks_told, self.sums(), self.waits()


def told_by(one):
    return one.who(), one.masks(), one.sums(), one.waits()


class Storms(unittest.TestCase):
    def test_runs(self):
        chance = random.Random(1)
        for count in range(400):
            plan = some_plan(chance)
            ticks = chance.choice((0, 1, 60, 200))
            knocks = some_knocks(chance, plan, chance.choice((3, 40, 250)))
            with self.subTest(count=count):
                one = run(plan, knocks, ticks=ticks)
                self.assertEqual(told_by(one), Model(plan, knocks, ticks).told())
                self.check_sums(plan, knocks, ticks, one)
                self.check_spans(one)

    def check_sums(self, plan, knocks, ticks, one):
        """What the document says in brackets behind point 7, and the turn of the dicts."""
        names = [row[0] for row in plan.lines()]
        self.assertEqual([list(one.sums()), list(one.waits())], [names, names])
        for name, _, up, _, _ in plan.lines():
            waited, merged, out, begun, waits = one.sums()[name]
            came = [tick for tick, line in knocks if line == name and tick < ticks]
            self.assertEqual(waited + merged + out, len(came))
            if not up:
                self.assertEqual(waited, begun + waits)

    def check_spans(self, one):
        spelt = []
        for first, end, who in one.spans():
            self.assertEqual(first, len(spelt))
            self.assertLess(first, end)
            spelt.extend([who] * (end - first))
        self.assertEqual(spelt, one.who())
        whos = [who for _, _, who in one.spans()]
        self.assertFalse(any(left == right for left, right in zip(whos, whos[1:])))

    def test_texts(self):
        chance = random.Random(2)
        for _ in range(300):
            plan = some_plan(chance)
            again = read(written(plan))
            self.assertTrue(again == plan)
            self.assertEqual(written(again), written(plan))

    def test_no_wait_is_longer_than_its_bound(self):
        chance = random.Random(3)
        seen = 0
        for count in range(500):
            plan = some_plan(chance)
            names = [row[0] for row in plan.lines()]
            bounds = {name: bound(plan, name) for name in names}
            for last in (10, 60, 150):
                waits = run(plan, some_knocks(chance, plan, last), ticks=400).waits()
                for name in names:
                    if bounds[name] is not None:
                        seen += 1
                        self.assertLessEqual(waits[name], bounds[name], f"{count}: {written(plan)}")
        self.assertGreater(seen, 1000)

    def test_no_wait_is_longer_where_each_device_knocks_whenever_it_is_let_by(self):
        chance = random.Random(4)
        longest = 0
        for count in range(150):
            plan = some_plan(chance)
            bounds = {row[0]: bound(plan, row[0]) for row in plan.lines()}
            for first in (0, 7):
                waits = run(plan, sly_knocks(chance, plan, first), ticks=300).waits()
                for name in bounds:
                    if bounds[name] is not None:
                        longest = max(longest, waits[name])
                        self.assertLessEqual(waits[name], bounds[name], f"{count}: {written(plan)}")
        self.assertGreater(longest, 20)

    def test_masked_stretches_are_seen_in_runs(self):
        chance = random.Random(5)
        for _ in range(200):
            steps = some_steps(chance, [], [], ["a"])
            plan = Plan([("a", 1, False, (9, 60, 1), steps)])
            one = run(plan, [(0, "a")], ticks=120)
            self.assertLessEqual(masked(plan)[0][2], sum(1 for masks in one.masks() if masks))
            self.assertEqual(masked(plan)[0][2] > 0, any(one.masks()))


class Benches(unittest.TestCase):
    def lead(self, chance, plan, knocks, ticks):
        """A bench led by cuts of ticks by chance, and the knocks that it was told."""
        bench, left, told, ran = Bench(plan), list(knocks), [], []
        while bench.tick() < ticks:
            while left and left[0][0] <= bench.tick():
                bench.knock(left[0][1])
                told.append((bench.tick(), left.pop(0)[1]))
            end = min([ticks, *[tick for tick, _ in left[:1]]])
            many = chance.randint(1, end - bench.tick())
            before = bench.tick()
            if chance.random() < 0.5:
                ran.extend(bench.go(ticks=many))
            else:
                self.lead_until(bench, plan.lines()[0][0], many)
                ran.extend(bench.so_far().who()[before:])
        self.assertEqual(ran, bench.so_far().who())
        return bench, told

    def lead_until(self, bench, name, many):
        before, tick = told_by(bench.so_far()), bench.tick()
        begun = before[2][name][3]
        try:
            found = bench.until(name, ticks=many)
        except BadTicks:
            self.assertEqual((told_by(bench.so_far()), bench.tick()), (before, tick))
            bench.go()
        else:
            self.assertEqual(bench.tick(), found + 1)
            self.assertLess(found, tick + many)
            self.assertGreater(bench.so_far().sums()[name][3], begun)

    def test_any_cuts_against_one_run(self):
        chance = random.Random(6)
        for count in range(150):
            plan = some_plan(chance)
            ticks = chance.randint(1, 150)
            knocks = some_knocks(chance, plan, chance.choice((3, 40, 150)))
            with self.subTest(count=count):
                bench, told = self.lead(chance, plan, knocks, ticks)
                self.assertEqual(told, [knock for knock in knocks if knock[0] < ticks])
                self.assertEqual(told_by(bench.so_far()), told_by(run(plan, knocks, ticks=ticks)))
                self.assertEqual(bench.nested(), [work["who"][1] for work in Model(plan, knocks, ticks).tops])

    def test_until_tells_the_first_beginning(self):
        chance = random.Random(7)
        for _ in range(150):
            plan = some_plan(chance)
            knocks = [(0, name) for _, name in some_knocks(chance, plan, 0)]
            bench = Bench(plan)
            for _, name in knocks:
                bench.knock(name)
            events = Model(plan, knocks, 60).events
            for name in [row[0] for row in plan.lines()]:
                begun = [tick for word, tick, line in events if (word, line) == ("begins", name)]
                later = [tick for tick in begun if tick >= bench.tick()]
                if later:
                    self.assertEqual(bench.until(name, ticks=60 - bench.tick()), later[0])
                elif bench.tick() < 60:
                    with self.assertRaises(BadTicks):
                        bench.until(name, ticks=60 - bench.tick())


if __name__ == "__main__":
    unittest.main()
