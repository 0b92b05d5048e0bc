"""What is handed in stays as it was and isn't kept; what is told is new; which plans are equal."""

import copy
import unittest

from knockwell.errors import BadPlan
from knockwell.plans import GUARD, Plan, line
from samples import RUN, a_line, bottoms_of, lines_of, threads_of, wrong


def handed():
    """Lines, bottoms and threads, each with steps of its own."""
    lines = [a_line("one", 1, top=[("run", 2), ("later", "low")]), a_line("two", 2, True, top=[("run", 1)])]
    return lines, [("low", [("run", 3), ("wake", "thr")])], [("thr", 5, [("mask",), ("run", 4)])]


def plan_of(told):
    lines, bottoms, threads = told
    return Plan(lines, bottoms=bottoms, threads=threads)


def told_by(plan):
    return plan.lines(), plan.bottoms(), plan.threads()


class Line(unittest.TestCase):
    def test_the_order_of_its_five(self):
        told = line("abc", [("run", 1)], rank=7, up=True, guard=(1, 2, 3))
        self.assertEqual(told, ("abc", 7, True, (1, 2, 3), [("run", 1)]))
        self.assertIs(type(told), tuple)
        self.assertIs(type(told[4]), list)

    def test_what_may_be_left_out(self):
        self.assertEqual(line("abc", RUN), ("abc", 1, False, (3, 10, 20), RUN))
        self.assertIs(line("abc", RUN)[2], False)
        self.assertEqual(line("abc", RUN, up=True), ("abc", 1, True, GUARD, RUN))
        self.assertEqual(line("abc", RUN, rank=9), ("abc", 9, False, GUARD, RUN))
        self.assertEqual(line("abc", RUN, guard=(1, 1, 1)), ("abc", 1, False, (1, 1, 1), RUN))

    def test_by_name_in_any_order(self):
        self.assertEqual(line(guard=(1, 1, 1), up=True, top=RUN, rank=2, name="a"), ("a", 2, True, (1, 1, 1), RUN))
        with self.assertRaises(TypeError):
            line("abc", RUN, 1)

    def test_a_plan_takes_it(self):
        plan = Plan([line("abc", RUN), line("abd", RUN, rank=2, up=True, guard=(1, 60, 60))])
        self.assertEqual(plan.lines(), [("abc", 1, False, GUARD, RUN), ("abd", 2, True, (1, 60, 60), RUN)])

    def test_whatever_it_is_handed_it_tells_a_tuple(self):
        for value in wrong():
            told = line(value, value, rank=value, up=value, guard=value)
            self.assertIs(type(told), tuple)
            self.assertEqual(len(told), 5)
            for one in told:
                self.assertIs(type(one), type(value))

    def test_whatever_it_is_handed_it_tells_the_same(self):
        for value in (None, True, 0, "", b"ab", [], (), {}, [[1], {"a": [2]}], ([3],), {"a": {"b": ["c"]}}):
            self.assertEqual(line(value, value, rank=value, up=value, guard=value), (value,) * 5)
            self.assertEqual(repr(line("a", value)), repr(("a", 1, False, GUARD, value)))

    def test_it_refuses_nothing_that_a_plan_does(self):
        wrong_line = line("ABC", (("run", 1),), rank=0, up=1, guard=[3, 10, 20])
        self.assertEqual(wrong_line, ("ABC", 0, 1, [3, 10, 20], (("run", 1),)))
        with self.assertRaises(BadPlan):
            Plan([wrong_line])
        with self.assertRaises(BadPlan):
            Plan([line("abc", (("run", 1),))])
        with self.assertRaises(BadPlan):
            Plan([line("abc", RUN, guard=[3, 10, 20])])

    def test_lists_and_dicts_within_it_are_new(self):
        top = [("run", 1), ["run", [1]], {"a": [1]}, ("run", [2])]
        told = line("abc", top, guard=top, rank={"b": top})
        top.append(("run", 2))
        top[1].append(2)
        top[1][1].append(2)
        top[2]["a"].append(2)
        top[2]["b"] = 2
        top[3][1].append(3)
        same = [("run", 1), ["run", [1]], {"a": [1]}, ("run", [2])]
        self.assertEqual(told, ("abc", {"b": same}, False, same, same))

    def test_so_they_are_far_within_it(self):
        inmost = [1]
        value = inmost
        for _ in range(5000):
            value = ([value],)
        told = line("abc", value)[4]
        inmost.append(2)
        for _ in range(5000):
            told = told[0][0]
        self.assertEqual(told, [1])

    def test_what_is_told_twice_is_new_twice(self):
        top = [("run", 1)]
        first, second = line("abc", top), line("abc", top)
        first[4].append(("run", 2))
        self.assertEqual(second[4], [("run", 1)])
        self.assertEqual(top, [("run", 1)])

    def test_changing_what_was_told_changes_nothing_handed_in(self):
        top = [("run", 1), ["run"]]
        told = line("abc", top)
        told[4][1].append(1)
        told[4].clear()
        self.assertEqual(top, [("run", 1), ["run"]])


class NothingChangedOrKept(unittest.TestCase):
    def test_what_is_handed_in_stays_as_it_was(self):
        given = handed()
        before = copy.deepcopy(given)
        plan = plan_of(given)
        told_by(plan)
        self.assertTrue(plan == plan_of(given))
        self.assertEqual(given, before)

    def test_what_is_refused_stays_as_it_was(self):
        for lines in ([a_line(), list(a_line("abd", 2))], [a_line(top=[("run", 1), ["run", 1]])],
                      [a_line(top=[("run", 1), ("later", "low")])], lines_of(6)):
            before = copy.deepcopy(lines)
            bottoms, threads = bottoms_of(5), threads_of(5)
            with self.assertRaises(BadPlan):
                Plan(lines, bottoms=bottoms, threads=threads)
            with self.assertRaises(BadPlan):
                Plan(lines)
            self.assertEqual(lines, before)
            self.assertEqual((bottoms, threads), (bottoms_of(5), threads_of(5)))

    def test_lists_changed_afterwards_change_no_plan(self):
        given = handed()
        plan = plan_of(given)
        for rows in given:
            for row in rows:
                row[-1].append(("run", 9))
                row[-1][0] = ("run", 8)
            rows.clear()
        self.assertEqual(told_by(plan), handed())

    def test_steps_within_tuples_changed_afterwards_change_no_plan(self):
        lines, bottoms, threads = handed()
        plan = Plan(tuple(lines), bottoms=tuple(bottoms), threads=tuple(threads))
        for row in [*lines, *bottoms, *threads]:
            row[-1].clear()
        self.assertEqual(told_by(plan), handed())

    def test_one_list_of_steps_handed_in_at_many_places(self):
        steps = [("run", 1)]
        plan = Plan([a_line("a", 1, top=steps), a_line("b", 2, top=steps)], bottoms=[("a", steps), ("b", steps)],
                    threads=[("a", 1, steps), ("b", 2, steps)])
        plan.lines()[0][4].append(("run", 2))
        told = told_by(plan)
        told[0][0][4].append(("run", 2))
        self.assertEqual(told[0][1][4], [("run", 1)])
        self.assertEqual(told[1], [("a", [("run", 1)]), ("b", [("run", 1)])])
        self.assertEqual(told[2], [("a", 1, [("run", 1)]), ("b", 2, [("run", 1)])])

    def test_lists_told_and_changed_change_neither_plan_nor_what_it_tells_next(self):
        plan = plan_of(handed())
        for _ in range(2):
            for rows in told_by(plan):
                for row in rows:
                    row[-1].append(("run", 9))
                    row[-1][0] = ("run", 8)
                rows.append(("more",))
                rows[0] = None
            self.assertEqual(told_by(plan), handed())
            self.assertTrue(plan == plan_of(handed()))

    def test_a_plan_without_bottoms_and_threads_tells_new_lists_too(self):
        plan = Plan(lines_of(1))
        plan.bottoms().append(("abc", RUN))
        plan.threads().append(("abc", 1, RUN))
        self.assertEqual(told_by(plan), (lines_of(1), [], []))
        self.assertEqual(told_by(Plan(lines_of(1))), (lines_of(1), [], []))

    def test_kinds_of_what_is_told(self):
        lines, bottoms, threads = handed()
        for plan in (Plan(lines, bottoms=bottoms, threads=threads),
                     Plan(tuple(lines), bottoms=tuple(bottoms), threads=tuple(threads))):
            for rows in told_by(plan):
                self.assertIs(type(rows), list)
                for row in rows:
                    self.assertIs(type(row), tuple)
                    self.assertIs(type(row[-1]), list)
                    self.assertEqual({type(step) for step in row[-1]}, {tuple})
            self.assertIs(type(plan.lines()[0][3]), tuple)
            self.assertIs(type(plan.lines()[0][2]), bool)

    def test_nothing_is_changed_by_a_refusal(self):
        plan = plan_of(handed())
        for more in ({"lines": []}, {"lines": lines_of(1), "bottoms": None}, {"lines": lines_of(1), "threads": 1}):
            with self.assertRaises(BadPlan):
                plan.__init__(**more)
            self.assertEqual(told_by(plan), handed())


class Equal(unittest.TestCase):
    def differ(self, one, other):
        self.assertFalse(one == other)
        self.assertFalse(other == one)
        self.assertTrue(one != other)

    def test_equal_plans(self):
        one, other = plan_of(handed()), plan_of(handed())
        self.assertTrue(one == other)
        self.assertFalse(one != other)
        self.assertTrue(one == one)
        self.assertTrue(Plan([line("abc", RUN)]) == Plan((a_line("abc"),), threads=[], bottoms=[]))

    def test_plans_that_differ_in_one_thing_of_a_line(self):
        plan = Plan([a_line("abc", 1, False, (3, 10, 20), [("run", 1), ("run", 2)])])
        for row in (("abd", 1, False, (3, 10, 20), [("run", 1), ("run", 2)]),
                    ("abc", 2, False, (3, 10, 20), [("run", 1), ("run", 2)]),
                    ("abc", 1, True, (3, 10, 20), [("run", 1), ("run", 2)]),
                    ("abc", 1, False, (4, 10, 20), [("run", 1), ("run", 2)]),
                    ("abc", 1, False, (3, 11, 20), [("run", 1), ("run", 2)]),
                    ("abc", 1, False, (3, 10, 21), [("run", 1), ("run", 2)]),
                    ("abc", 1, False, (3, 10, 20), [("run", 1), ("run", 3)]),
                    ("abc", 1, False, (3, 10, 20), [("run", 2), ("run", 1)]),
                    ("abc", 1, False, (3, 10, 20), [("run", 1)]),
                    ("abc", 1, False, (3, 10, 20), [("run", 1), ("run", 2), ("mask",)])):
            with self.subTest(row=row):
                self.differ(plan, Plan([row]))

    def test_plans_that_differ_in_one_thing_of_bottoms_or_threads(self):
        lines, bottoms, threads = handed()
        plan = plan_of(handed())
        self.differ(plan, Plan(lines, bottoms=[("low", [("run", 2), ("wake", "thr")])], threads=threads))
        self.differ(plan, Plan(lines, bottoms=[*bottoms, ("lower", RUN)], threads=threads))
        self.differ(plan, Plan(lines, bottoms=bottoms, threads=[("thr", 6, [("mask",), ("run", 4)])]))
        self.differ(plan, Plan(lines, bottoms=bottoms, threads=[("thr", 5, [("mask",), ("run", 5)])]))
        self.differ(plan, Plan(lines, bottoms=bottoms, threads=[*threads, ("thrb", 6, RUN)]))
        self.differ(Plan(lines_of(1), bottoms=[("a", RUN)]), Plan(lines_of(1), bottoms=[("b", RUN)]))
        self.differ(Plan(lines_of(1), threads=[("a", 1, RUN)]), Plan(lines_of(1), threads=[("b", 1, RUN)]))
        self.differ(Plan(lines_of(1), bottoms=bottoms_of(1)), Plan(lines_of(1)))
        self.differ(Plan(lines_of(1), threads=threads_of(1)), Plan(lines_of(1)))

    def test_plans_that_differ_in_their_turn(self):
        for word, rows in (("bottoms", bottoms_of(2)), ("threads", threads_of(2))):
            self.differ(Plan(lines_of(1), **{word: rows}), Plan(lines_of(1), **{word: rows[::-1]}))
        self.differ(Plan(lines_of(2)), Plan(lines_of(2)[::-1]))
        self.differ(Plan(lines_of(2)), Plan(lines_of(3)))

    def test_a_plan_equals_nothing_else(self):
        plan = Plan(lines_of(1))
        for value in wrong():
            self.assertFalse(plan == value)
            self.assertTrue(plan != value)
        self.assertFalse(plan == plan.lines())
        self.assertFalse(plan == (plan.lines(), [], []))


if __name__ == "__main__":
    unittest.main()
