"""Knocks and ticks that a run is handed: what it takes, and what it refuses."""

import copy
import inspect
import unittest

from knockwell import runs
from knockwell.errors import BadKnocks, BadTicks
from knockwell.plans import Plan, line
from knockwell.runs import TICKS, run
from samples import wrong

PLAN = Plan([line("a", [("run", 1)], guard=(9, 1, 1)), line("b", [("run", 1)], rank=2, guard=(9, 1, 1))])


class Case(unittest.TestCase):
    def refuses(self, at, knocks, **more):
        with self.assertRaises(BadKnocks) as caught:
            run(PLAN, knocks, **more)
        self.assertIs(type(caught.exception), BadKnocks)
        self.assertEqual(caught.exception.at, at)
        self.assertIs(type(caught.exception.at), int)

    def refuses_ticks(self, ticks):
        with self.assertRaises(BadTicks) as caught:
            run(PLAN, [], ticks=ticks)
        self.assertIs(type(caught.exception), BadTicks)


class Knocks(Case):
    def test_none(self):
        self.assertEqual(run(PLAN, []).sums(), {"a": (0, 0, 0, 0, 0), "b": (0, 0, 0, 0, 0)})

    def test_how_many(self):
        knocks = [(at, "ab"[at % 2]) for at in range(400)]
        sums = run(PLAN, knocks, ticks=900).sums()
        self.assertEqual(sums, {"a": (200, 0, 0, 200, 0), "b": (200, 0, 0, 200, 0)})
        self.refuses(400, knocks + [(450, "a")])
        self.refuses(400, knocks + [(450, "a")] * 50)
        self.refuses(400, [(0, "a")] * 401)
        self.refuses(400, knocks + [None])

    def test_ticks_of_knocks(self):
        sums = run(PLAN, [(0, "a"), (500, "a")], ticks=501).sums()
        self.assertEqual(sums["a"], (2, 0, 0, 2, 0))
        self.refuses(0, [(-1, "a")])
        self.refuses(0, [(501, "a")])
        self.refuses(1, [(500, "a"), (501, "a")])
        self.refuses(0, [(-1, "a"), (0, "a")])

    def test_knocks_behind_the_last_tick_never_come(self):
        self.assertEqual(run(PLAN, [(59, "a"), (60, "a"), (500, "b")]).sums(),
                         {"a": (1, 0, 0, 1, 0), "b": (0, 0, 0, 0, 0)})

    def test_they_are_in_the_order_of_ticks(self):
        self.refuses(1, [(1, "a"), (0, "a")])
        self.refuses(2, [(1, "a"), (5, "b"), (4, "a"), (6, "a")])
        self.refuses(3, [(0, "a"), (500, "a"), (500, "b"), (499, "a")])

    def test_several_of_one_tick_in_any_turn(self):
        for knocks in ([(3, "a"), (3, "b")], [(3, "b"), (3, "a")]):
            self.assertEqual(run(PLAN, knocks).sums(), {"a": (1, 0, 0, 1, 0), "b": (1, 0, 0, 1, 0)})

    def test_one_line_twice(self):
        sums = run(PLAN, [(3, "a"), (3, "b"), (3, "a"), (3, "a")]).sums()
        self.assertEqual(sums, {"a": (1, 2, 0, 1, 0), "b": (1, 0, 0, 1, 0)})

    def test_a_name_of_no_line(self):
        for name in ("c", "A", "", "ab", "a ", " a", "a\n"):
            self.refuses(0, [(0, name)])
            self.refuses(1, [(0, "a"), (0, name), (0, "b")])

    def test_names_of_bottoms_and_threads_are_no_lines(self):
        plan = Plan([line("a", [("run", 1)])], bottoms=[("b", [("run", 1)])], threads=[("c", 1, [("run", 1)])])
        for name in ("b", "c"):
            with self.assertRaises(BadKnocks) as caught:
                run(plan, [(0, "a"), (0, name)])
            self.assertEqual(caught.exception.at, 1)

    def test_what_is_no_list(self):
        for knocks in [*[one for one in wrong([]) if not isinstance(one, list)], ((0, "a"),), {(0, "a"): 1}, "a",
                       {0: (0, "a")}, iter([(0, "a")]), {(0, "a")}]:
            self.refuses(0, knocks)

    def test_what_is_no_pair(self):
        for knock in [*wrong(), [0, "a"], {0: "a"}, "0a", (0,), (0, "a", "a"), (0, "a", None), ("a", 0), ()]:
            self.refuses(0, [knock])
            self.refuses(1, [(0, "a"), knock])
            self.refuses(2, [(0, "a"), (500, "b"), knock, knock])

    def test_what_is_no_number(self):
        for tick in [*wrong(0, 1, 100), "0", (0,), True, False]:
            self.refuses(0, [(tick, "a")])
            self.refuses(1, [(0, "a"), (tick, "a")])

    def test_what_is_no_text(self):
        for name in [*wrong(), None, 0, b"a", ["a"], ("a",), {"a": "a"}]:
            self.refuses(0, [(0, name)])
            self.refuses(1, [(0, "a"), (0, name)])

    def test_of_two_wrong_ones_the_first_is_told(self):
        self.refuses(1, [(0, "a"), (0, "c"), (0, "a"), (-1, "a")])
        self.refuses(1, [(0, "a"), None, (-1, "a"), None])
        self.refuses(2, [(0, "a"), (9, "a"), (8, "c"), (7, "a")])
        self.refuses(399, [(0, "a")] * 399 + [(0, "c"), (0, "a")])

    def test_lists_of_all_kinds(self):
        for knocks in (wrong(), [[]], [None] * 500):
            self.refuses(0, knocks)

    def test_what_is_handed_in_stays_and_is_not_kept(self):
        knocks = [(0, "a"), (3, "b"), (3, "b")]
        before = copy.deepcopy(knocks)
        one = run(PLAN, knocks)
        self.assertEqual(knocks, before)
        knocks.clear()
        self.assertEqual(one.sums(), {"a": (1, 0, 0, 1, 0), "b": (1, 1, 0, 1, 0)})

    def test_what_is_refused_stays(self):
        for knocks in ([(0, "a"), (3, "c")], [(0, "a")] * 401, [[0, "a"]]):
            before = copy.deepcopy(knocks)
            with self.assertRaises(BadKnocks):
                run(PLAN, knocks)
            self.assertEqual(knocks, before)


class Ticks(Case):
    def test_the_ticks_that_are_left_out(self):
        self.assertEqual(runs.TICKS, 60)
        self.assertIs(type(TICKS), int)
        self.assertEqual(len(run(PLAN, []).who()), 60)

    def test_how_many(self):
        for ticks in (0, 1, 2, 60, 899, 900):
            self.assertEqual(len(run(PLAN, [], ticks=ticks).who()), ticks)

    def test_too_few_and_too_many(self):
        for ticks in (-1, 901, -900, 10 ** 30):
            self.refuses_ticks(ticks)

    def test_other_kinds(self):
        for ticks in [*wrong(0, 1, 100), True, False, "60", [60], (60,), None]:
            self.refuses_ticks(ticks)

    def test_by_name_alone(self):
        with self.assertRaises(TypeError):
            run(PLAN, [], 5)
        self.assertEqual(len(run(ticks=5, knocks=[], plan=PLAN).who()), 5)
        told = inspect.signature(run)
        self.assertEqual(str(told), "(plan, knocks, *, ticks=60)")

    def test_knocks_are_refused_ahead_of_ticks(self):
        for ticks in (-1, 901, None, True):
            self.refuses(0, None, ticks=ticks)
            self.refuses(1, [(0, "a"), (0, "c")], ticks=ticks)


if __name__ == "__main__":
    unittest.main()
