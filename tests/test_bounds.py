"""Masked stretches, and the bound of a line."""

import inspect
import unittest

from knockwell.bounds import bound, masked
from knockwell.errors import BadName
from knockwell.plans import Plan, line
from knockwell.runs import run
from samples import full_plan, wrong

MASK, OPEN = ("mask",), ("open",)
NINES = [("run", 9)]


def stretch_of(steps):
    told = masked(Plan([line("a", steps)]))
    return told[0][2]


def one_line(ticks, **more):
    """A plan whose only line has a top of so many ticks, 1 to 9."""
    return Plan([line("a", [("run", ticks)])], **more)


class Masked(unittest.TestCase):
    def test_none(self):
        self.assertEqual(stretch_of([("run", 9)]), 0)
        self.assertEqual(stretch_of([("run", 9), MASK]), 0)
        self.assertEqual(stretch_of([MASK, OPEN, ("run", 9)]), 0)
        self.assertEqual(stretch_of([("run", 1), MASK, OPEN, ("run", 9), MASK, ("answer", "a"), OPEN]), 0)

    def test_one(self):
        self.assertEqual(stretch_of([MASK, ("run", 3), OPEN, ("run", 9)]), 3)
        self.assertEqual(stretch_of([("run", 9), MASK, ("run", 3), ("run", 2), OPEN]), 5)

    def test_left_on(self):
        self.assertEqual(stretch_of([("run", 9), MASK, ("run", 3), ("answer", "a"), ("run", 1)]), 4)
        self.assertEqual(stretch_of([MASK, ("run", 1), OPEN, ("run", 9), MASK, ("run", 2)]), 2)

    def test_masks_within_masks(self):
        self.assertEqual(stretch_of([MASK, ("run", 1), MASK, ("run", 2), OPEN, ("run", 3), OPEN, ("run", 9)]), 6)
        self.assertEqual(stretch_of([MASK, MASK, ("run", 2), OPEN, ("run", 3)]), 5)

    def test_two_side_by_side_are_not_joined(self):
        self.assertEqual(stretch_of([MASK, ("run", 3), OPEN, MASK, ("run", 4), OPEN]), 4)
        self.assertEqual(stretch_of([MASK, ("run", 4), OPEN, MASK, ("run", 3), OPEN]), 4)
        self.assertEqual(stretch_of([MASK, ("run", 3), OPEN, ("answer", "a"), MASK, ("run", 3)]), 3)

    def test_the_longest_there_can_be(self):
        self.assertEqual(stretch_of([MASK] + NINES * 11), 99)

    def test_kinds_and_the_plans_turn(self):
        plan = Plan([line("b", [MASK, ("run", 2)], rank=5), line("a", [("run", 1)], rank=9)],
                    bottoms=[("d", [("run", 1)]), ("c", [("run", 1), MASK, ("run", 3)])],
                    threads=[("f", 9, [MASK, ("run", 4), OPEN]), ("e", 2, [("run", 1)]), ("a", 3, [("run", 1)])])
        self.assertEqual(masked(plan), [("top", "b", 2), ("top", "a", 0), ("bottom", "d", 0), ("bottom", "c", 3),
                                        ("thread", "f", 4), ("thread", "e", 0), ("thread", "a", 0)])
        self.assertIs(type(masked(plan)), list)
        self.assertEqual({type(row) for row in masked(plan)}, {tuple})

    def test_it_is_new_each_time(self):
        plan = full_plan()
        told = masked(plan)
        told.clear()
        self.assertEqual(masked(plan), [("top", "linea", 0), ("top", "lineb", 0), ("bottom", "lowa", 0),
                                        ("bottom", "lowb", 0), ("thread", "thra", 0), ("thread", "thrb", 0)])


class Alone(unittest.TestCase):
    """Bounds of lines with none of a greater rank."""

    def test_its_own_top(self):
        for ticks in range(1, 10):
            self.assertEqual(bound(one_line(ticks), "a"), ticks)
        self.assertEqual(bound(Plan([line("a", NINES * 12)]), "a"), 108)

    def test_its_own_masked_stretch_does_not_count(self):
        self.assertEqual(bound(Plan([line("a", [MASK, ("run", 5)])]), "a"), 5)

    def test_whether_it_is_up_itself_does_not_count(self):
        self.assertEqual(bound(Plan([line("a", [("run", 5)], up=True)]), "a"), 5)

    def test_masked_stretches_of_lesser_lines_bottoms_and_threads(self):
        steps = [("run", 9), MASK, ("run", 5), OPEN]
        self.assertEqual(bound(Plan([line("a", [("run", 3)], rank=2), line("b", steps)]), "a"), 7)
        self.assertEqual(bound(one_line(3, bottoms=[("b", steps)]), "a"), 7)
        self.assertEqual(bound(one_line(3, threads=[("b", 99, steps)]), "a"), 7)

    def test_the_longest_of_them_less_one(self):
        plan = one_line(3, bottoms=[("b", [MASK, ("run", 1)]), ("c", [MASK, ("run", 4)])],
                        threads=[("d", 1, [MASK, ("run", 2)])])
        self.assertEqual(bound(plan, "a"), 6)
        self.assertEqual(bound(one_line(3, bottoms=[("b", [MASK, ("run", 1)])]), "a"), 3)

    def test_a_stretch_of_no_tick_is_none(self):
        self.assertEqual(bound(one_line(3, bottoms=[("b", [MASK, OPEN, ("run", 1)])]), "a"), 3)

    def test_ticks_of_lesser_lines_do_not_count(self):
        self.assertEqual(bound(Plan([line("a", [("run", 3)], rank=2), line("b", [("run", 9)])]), "a"), 3)

    def test_a_lesser_line_that_is_never_answered_does_not_count(self):
        self.assertEqual(bound(Plan([line("a", [("run", 3)], rank=2), line("b", [("run", 9)], up=True)]), "a"), 3)


class Greater(unittest.TestCase):
    """Bounds of lines with some of a greater rank."""

    def beneath(self, *greater, ticks=1, **more):
        rows = [line("bcde"[at], [("run", top)], rank=at + 2, guard=guard) for at, (top, guard) in enumerate(greater)]
        return bound(Plan([line("a", [("run", ticks)]), *rows], **more), "a")

    def test_one(self):
        # Beneath one that takes 1 tick, 1 in 60: more than 1 * (1 * 1 + 2).
        self.assertEqual(self.beneath((1, (1, 60, 60))), 4)
        self.assertEqual(self.beneath((9, (1, 60, 60))), 28)
        self.assertEqual(self.beneath((9, (2, 60, 60))), 37)
        self.assertEqual(self.beneath((9, (2, 60, 60)), ticks=5), 41)

    def test_its_rest_does_not_count(self):
        for rest in (1, 20, 60):
            self.assertEqual(self.beneath((9, (2, 60, rest))), 37)

    def test_several(self):
        self.assertEqual(self.beneath((1, (1, 60, 60)), (2, (2, 60, 60))), 12)
        self.assertEqual(self.beneath((1, (1, 60, 60)), (2, (2, 60, 60)), (3, (1, 60, 1)), (1, (5, 60, 1))), 28)

    def test_a_wide_that_just_begins_once_more(self):
        # 4 > 1 + 2, as one wide of 4 ticks begins in 4 ticks.
        self.assertEqual(self.beneath((1, (1, 4, 1))), 4)
        # 5 is no more than 1 + 2 + 2, as a second one begins in 5 ticks; 6 is.
        self.assertEqual(self.beneath((1, (1, 4, 1)), ticks=2), 6)
        self.assertEqual(self.beneath((1, (1, 3, 1))), 5)

    def test_at_the_end_of_the_widest(self):
        # 60 is more than 5 + 9 * (4 + 2); with one tick more of its own a second wide begins: 6 + 9 * (8 + 2).
        self.assertEqual(self.beneath((9, (4, 60, 1)), ticks=6), 60)
        self.assertEqual(self.beneath((9, (4, 60, 1)), ticks=7), 97)

    def test_it_counts_for_the_lesser_line_alone(self):
        plan = Plan([line("a", [("run", 1)]), line("b", [("run", 4)], rank=3), line("c", [("run", 1)], rank=2)])
        self.assertEqual(bound(plan, "b"), 4)
        self.assertEqual(bound(plan, "c"), None)

    def test_masked_stretches_of_greater_lines_do_not_count(self):
        plan = Plan([line("a", [("run", 1)]), line("b", [MASK, ("run", 9)], rank=2, guard=(1, 60, 60)),
                     line("c", [MASK, ("run", 7)], rank=3, guard=(1, 60, 60))])
        self.assertEqual(bound(plan, "a"), 49)
        self.assertEqual(bound(plan, "b"), 30)
        self.assertEqual(bound(plan, "c"), 15)

    def test_none_if_the_greater_ones_take_all_ticks(self):
        self.assertIsNone(self.beneath((1, (1, 1, 1))))
        self.assertIsNone(self.beneath((9, (9, 60, 60))))
        self.assertIsNone(self.beneath((1, (1, 2, 1)), (1, (1, 2, 1))))
        self.assertEqual(self.beneath((1, (1, 2, 1))), 6)

    def test_the_greatest_bound(self):
        def plan_of(stretch):
            return Plan([line("a", NINES * 12), line("b", NINES * 5, rank=2, guard=(1, 50, 1))],
                        threads=[("t", 1, [MASK, ("run", stretch)])])
        # More than 2 + 107 + 45 * (40 + 2); with one tick more it were 2046.
        self.assertEqual(bound(plan_of(3), "a"), 2000)
        self.assertEqual(bound(plan_of(2), "a"), 1999)
        self.assertIsNone(bound(plan_of(4), "a"))

    def test_a_greater_line_that_is_up(self):
        def plan_of(top, up=True):
            return Plan([line("a", [("run", 1), ("answer", "b")]),
                         line("b", top, rank=2, up=up, guard=(1, 60, 60))])
        self.assertEqual(bound(plan_of([("answer", "b"), ("run", 1)]), "a"), 4)
        self.assertEqual(bound(plan_of([("run", 1), ("answer", "b")]), "a"), 4)
        self.assertIsNone(bound(plan_of([("run", 1)]), "a"))
        self.assertIsNone(bound(plan_of([("run", 1), ("answer", "a")]), "a"))
        self.assertEqual(bound(plan_of([("run", 1)], up=False), "a"), 4)
        self.assertEqual(bound(plan_of([("run", 1)]), "b"), 1)

    def test_one_of_several_greater_lines_that_is_never_answered(self):
        plan = Plan([line("a", [("run", 1)]), line("b", [("run", 1)], rank=2, guard=(1, 60, 60)),
                     line("c", [("run", 1), ("answer", "b")], rank=3, up=True, guard=(1, 60, 60))])
        self.assertIsNone(bound(plan, "a"))
        self.assertIsNone(bound(plan, "b"))
        self.assertEqual(bound(plan, "c"), 1)


class Names(unittest.TestCase):
    def test_what_is_no_lines_name(self):
        plan = full_plan()
        for name in [*wrong(), "line", "lineaa", "LINEA", "lowa", "thra", "", b"linea", ["linea"], ("linea",)]:
            with self.assertRaises(BadName) as caught:
                bound(plan, name)
            self.assertIs(type(caught.exception), BadName)
        self.assertEqual(bound(plan, "lineb"), 1)

    def test_no_name_ahead_of_no_bound(self):
        with self.assertRaises(BadName):
            bound(Plan([line("a", [("run", 1)], up=True)]), "b")

    def test_arguments(self):
        self.assertEqual(str(inspect.signature(bound)), "(plan, name)")
        self.assertEqual(str(inspect.signature(masked)), "(plan)")


class Reached(unittest.TestCase):
    """Waits that come as near to the bound as they can."""

    def test_its_own_top(self):
        plan = Plan([line("a", [("run", 5)], guard=(9, 1, 1))])
        self.assertEqual(run(plan, [(0, "a"), (1, "a")]).waits()["a"], bound(plan, "a") - 1)

    def test_a_masked_stretch(self):
        plan = Plan([line("a", [("run", 1)], rank=2), line("b", [MASK, ("run", 9), ("run", 9)])])
        self.assertEqual(run(plan, [(0, "b"), (1, "a")]).waits()["a"], bound(plan, "a") - 1)

    def test_greater_lines(self):
        plan = Plan([line("a", [("run", 1)]), line("b", [("run", 5)], rank=2, guard=(9, 60, 60))])
        knocks = [(0, "b"), (1, "a")] + [(tick, "b") for tick in range(3, 60, 5)]
        most = bound(plan, "a")
        self.assertEqual(run(plan, knocks, ticks=200).waits()["a"], 44)
        self.assertEqual(most, 56)


if __name__ == "__main__":
    unittest.main()
