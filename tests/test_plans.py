"""Plans: what they are made of, and what they refuse."""

import unittest

from knockwell import plans
from knockwell.errors import BadPlan
from knockwell.plans import GUARD, Plan
from samples import RUN, a_line, bottoms_of, lines_of, threads_of, wrong


class Case(unittest.TestCase):
    def refuses(self, lines, **more):
        with self.assertRaises(BadPlan) as caught:
            Plan(lines, **more)
        self.assertIs(type(caught.exception), BadPlan)

    def refuses_line(self, *row):
        """As the only line, and ahead of and behind a right one."""
        other = a_line("other", 50)
        self.refuses([tuple(row)])
        self.refuses([tuple(row), other])
        self.refuses([other, tuple(row)])

    def refuses_bottom(self, *row):
        """As the only bottom, and ahead of and behind a right one."""
        other = ("other", RUN)
        for bottoms in ([tuple(row)], [tuple(row), other], [other, tuple(row)]):
            self.refuses(lines_of(1), bottoms=bottoms)

    def refuses_thread(self, *row):
        """As the only thread, and ahead of and behind a right one."""
        other = ("other", 50, RUN)
        for threads in ([tuple(row)], [tuple(row), other], [other, tuple(row)]):
            self.refuses(lines_of(1), threads=threads)


class Right(Case):
    def test_the_guard_of_the_interface(self):
        self.assertEqual(plans.GUARD, (3, 10, 20))
        self.assertIs(type(GUARD), tuple)

    def test_one_line(self):
        plan = Plan([("abc", 7, True, (1, 2, 3), [("run", 4)])])
        self.assertEqual(plan.lines(), [("abc", 7, True, (1, 2, 3), [("run", 4)])])
        self.assertEqual(plan.bottoms(), [])
        self.assertEqual(plan.threads(), [])

    def test_five_lines_with_bottoms_and_threads_keep_their_turn(self):
        lines = [a_line("e", 3), a_line("a", 99, True), a_line("c", 1), a_line("b", 50), a_line("d", 2, True)]
        bottoms = [("z", RUN), ("a", [("later", "z"), ("run", 2)])]
        threads = [("y", 1, RUN), ("a", 99, [("run", 9), ("wake", "y")]), ("x", 2, RUN)]
        plan = Plan(lines, threads=threads, bottoms=bottoms)
        self.assertEqual(plan.lines(), lines)
        self.assertEqual(plan.bottoms(), bottoms)
        self.assertEqual(plan.threads(), threads)

    def test_bottoms_without_threads_and_threads_without_bottoms(self):
        self.assertEqual(Plan(lines_of(1), bottoms=bottoms_of(2)).threads(), [])
        self.assertEqual(Plan(lines_of(1), threads=threads_of(2)).bottoms(), [])

    def test_a_list_or_a_tuple_of_each(self):
        listed = Plan(lines_of(2), bottoms=bottoms_of(2), threads=threads_of(2))
        paired = Plan(tuple(lines_of(2)), bottoms=tuple(bottoms_of(2)), threads=tuple(threads_of(2)))
        for plan in (listed, paired):
            self.assertEqual(plan.lines(), lines_of(2))
            self.assertEqual(plan.bottoms(), bottoms_of(2))
            self.assertEqual(plan.threads(), threads_of(2))
        self.assertTrue(listed == paired)

    def test_what_stands_behind_the_star_is_handed_in_by_name_alone(self):
        with self.assertRaises(TypeError):
            Plan(lines_of(1), bottoms_of(1))
        with self.assertRaises(TypeError):
            Plan(lines_of(1), bottoms_of(1), threads_of(1))

    def test_a_line_a_bottom_and_a_thread_may_share_name_and_rank(self):
        steps = [("answer", "abc"), ("later", "abc"), ("wake", "abc"), ("run", 1)]
        plan = Plan([a_line("abc", 7, top=steps)], bottoms=[("abc", steps)], threads=[("abc", 7, steps)])
        self.assertEqual(plan.lines()[0][0], "abc")
        self.assertEqual(plan.bottoms(), [("abc", steps)])
        self.assertEqual(plan.threads(), [("abc", 7, steps)])

    def test_each_method_stands_in_the_class_itself(self):
        for word in ("__init__", "__eq__", "lines", "bottoms", "threads"):
            self.assertIn(word, vars(Plan))


class HowMany(Case):
    def test_lines(self):
        for many in range(1, 6):
            self.assertEqual(len(Plan(lines_of(many)).lines()), many)
        self.refuses([])
        self.refuses(())
        self.refuses(lines_of(6))
        self.refuses(tuple(lines_of(6)))

    def test_bottoms(self):
        for many in range(5):
            self.assertEqual(Plan(lines_of(1), bottoms=bottoms_of(many)).bottoms(), bottoms_of(many))
        self.refuses(lines_of(1), bottoms=bottoms_of(5))
        self.refuses(lines_of(1), bottoms=tuple(bottoms_of(5)))

    def test_threads(self):
        for many in range(5):
            self.assertEqual(Plan(lines_of(1), threads=threads_of(many)).threads(), threads_of(many))
        self.refuses(lines_of(1), threads=threads_of(5))
        self.refuses(lines_of(1), threads=tuple(threads_of(5)))

    def test_no_line_is_no_plan_even_with_the_rest(self):
        self.refuses([], bottoms=bottoms_of(1), threads=threads_of(1))


class Names(Case):
    RIGHT = ("a", "z", "ab", "abcdefgh", "zzzzzzzz", "line", "run", "up")
    WRONG = ("", "abcdefghi", "a" * 100, "A", "Abc", "abC", "a1", "1", "a b", " a", "a ", "a\n", "\n", "a_b",
             "a-b", "a.b", "a:", "a,", "a\0", "\u00e4", "\u00df", "\u00e9", "\u0131", "\u03b1", "\uff41",
             "a\u0301", "\u00aa", "\U0001d41a", "`", "{")

    def test_right_ones(self):
        for name in self.RIGHT:
            with self.subTest(name=name):
                self.assertEqual(Plan([a_line(name)]).lines()[0][0], name)
                self.assertEqual(Plan(lines_of(1), bottoms=[(name, RUN)]).bottoms(), [(name, RUN)])
                self.assertEqual(Plan(lines_of(1), threads=[(name, 1, RUN)]).threads(), [(name, 1, RUN)])

    def test_each_small_letter_is_one(self):
        for letter in "abcdefghijklmnopqrstuvwxyz":
            self.assertEqual(Plan([a_line(letter)]).lines(), [a_line(letter)])

    def test_wrong_ones(self):
        for name in self.WRONG:
            with self.subTest(name=name):
                self.refuses_line(*a_line(name))
                self.refuses_bottom(name, RUN)
                self.refuses_thread(name, 1, RUN)

    def test_other_kinds(self):
        for name in [*wrong("abc", "run"), ["a"], ("a",), b"a"]:
            self.refuses_line(*a_line(name))
            self.refuses_bottom(name, RUN)
            self.refuses_thread(name, 1, RUN)


class Ranks(Case):
    def test_right_ones(self):
        for rank in (1, 2, 98, 99):
            self.assertEqual(Plan([a_line(rank=rank)]).lines()[0][1], rank)
            self.assertEqual(Plan(lines_of(1), threads=[("abc", rank, RUN)]).threads()[0][1], rank)

    def test_wrong_ones_and_other_kinds(self):
        for rank in [0, 100, -1, 10 ** 30, "1", b"1", [1], (1,), *wrong(1)]:
            self.refuses_line(*a_line(rank=rank))
            self.refuses_thread("abc", rank, RUN)

    def test_true_is_no_rank(self):
        self.refuses_line(*a_line(rank=True))
        self.refuses_line(*a_line(rank=False))
        self.refuses_thread("abc", True, RUN)
        self.refuses_thread("abc", False, RUN)


class Ups(Case):
    def test_right_ones(self):
        for up in (True, False):
            self.assertIs(Plan([a_line(up=up)]).lines()[0][2], up)

    def test_other_kinds(self):
        for up in [0, 1, "True", "up", "latched", *wrong(True, False)]:
            self.refuses_line(*a_line(up=up))


class Guards(Case):
    def test_each_number_at_its_least_and_greatest(self):
        for guard in ((1, 10, 20), (9, 10, 20), (3, 1, 20), (3, 60, 20), (3, 10, 1), (3, 10, 60), (1, 1, 1),
                      (9, 60, 60)):
            with self.subTest(guard=guard):
                self.assertEqual(Plan([a_line(guard=guard)]).lines()[0][3], guard)

    def test_each_number_just_beyond(self):
        for guard in ((0, 10, 20), (10, 10, 20), (3, 0, 20), (3, 61, 20), (3, 10, 0), (3, 10, 61)):
            with self.subTest(guard=guard):
                self.refuses_line(*a_line(guard=guard))

    def test_numbers_of_other_kinds(self):
        for number in wrong(1):
            self.refuses_line(*a_line(guard=(number, 10, 20)))
            self.refuses_line(*a_line(guard=(3, number, 20)))
            self.refuses_line(*a_line(guard=(3, 10, number)))

    def test_true_is_no_number_of_a_guard(self):
        for guard in ((True, 10, 20), (3, True, 20), (3, 10, True), (True, True, True)):
            self.refuses_line(*a_line(guard=guard))

    def test_guards_of_other_kinds(self):
        for guard in [[3, 10, 20], (), (3,), (3, 10), (3, 10, 20, 30), {3: 1, 10: 1, 20: 1}, "abc", b"\3\4\5",
                      range(1, 4), {3, 10, 20}, *wrong()]:
            self.refuses_line(*a_line(guard=guard))


class Alike(Case):
    def test_two_lines(self):
        self.refuses([a_line("abc", 1), a_line("abc", 2)])
        self.refuses([a_line("abc", 1), a_line("abd", 1)])
        self.refuses([a_line("a", 1), a_line("b", 2), a_line("c", 3), a_line("d", 4), a_line("a", 5)])
        self.refuses([a_line("a", 1), a_line("b", 2), a_line("c", 3), a_line("d", 4), a_line("e", 1)])

    def test_two_bottoms(self):
        self.refuses(lines_of(1), bottoms=[("abc", RUN), ("abc", [("run", 2)])])
        self.refuses(lines_of(1), bottoms=[("abc", RUN), ("b", RUN), ("c", RUN), ("abc", RUN)])

    def test_two_threads(self):
        self.refuses(lines_of(1), threads=[("abc", 1, RUN), ("abc", 2, RUN)])
        self.refuses(lines_of(1), threads=[("abc", 1, RUN), ("abd", 1, RUN)])
        self.refuses(lines_of(1), threads=[("a", 1, RUN), ("b", 2, RUN), ("c", 3, RUN), ("a", 4, RUN)])
        self.refuses(lines_of(1), threads=[("a", 1, RUN), ("b", 2, RUN), ("c", 3, RUN), ("d", 1, RUN)])


class NotThere(Case):
    def test_nothing_there_at_all(self):
        for step in (("answer", "other"), ("later", "other"), ("wake", "other"), ("later", "linea"),
                     ("wake", "linea")):
            steps = [("run", 1), step]
            self.refuses([a_line("linea", top=steps)])
            self.refuses(lines_of(1), bottoms=[("abc", steps)])
            self.refuses(lines_of(1), threads=[("abc", 1, steps)])

    def test_the_last_of_five_lines_is_asked_too(self):
        lines = lines_of(4)
        self.refuses([*lines, a_line("last", 5, top=[("run", 1), ("answer", "linee")])])
        plan = Plan([*lines, a_line("last", 5, top=[("run", 1), ("answer", "lined")])])
        self.assertEqual(len(plan.lines()), 5)


class OtherKinds(Case):
    def test_what_stands_for_all_lines(self):
        for lines in [a_line(), {"abc": a_line()}, {0: a_line()}, Plan(lines_of(1)), iter(lines_of(1)),
                      *wrong()]:
            self.refuses(lines)

    def test_what_stands_for_all_bottoms_or_threads(self):
        for rows in [("abc", RUN), ("abc", 1, RUN), {"abc": RUN}, {0: ("abc", RUN)}, Plan(lines_of(1)),
                     iter([]), *wrong([], ())]:
            self.refuses(lines_of(1), bottoms=rows)
            self.refuses(lines_of(1), threads=rows)

    def test_what_stands_for_one(self):
        for row in wrong():
            self.refuses([row])
            self.refuses([a_line(), row])
            self.refuses(lines_of(1), bottoms=[row])
            self.refuses(lines_of(1), threads=[row])

    def test_a_list_is_no_line_bottom_or_thread(self):
        self.refuses([list(a_line())])
        self.refuses(lines_of(1), bottoms=[["abc", RUN]])
        self.refuses(lines_of(1), threads=[["abc", 1, RUN]])

    def test_too_short_and_too_long(self):
        self.refuses_line(*a_line()[:4])
        self.refuses_line(*a_line()[1:])
        self.refuses_line(*a_line(), RUN)
        self.refuses_line("abc", RUN)
        self.refuses_bottom("abc")
        self.refuses_bottom("abc", RUN, RUN)
        self.refuses_bottom("abc", 1, RUN)
        self.refuses_thread("abc", 1)
        self.refuses_thread("abc", RUN)
        self.refuses_thread("abc", 1, RUN, RUN)

    def test_in_another_order(self):
        self.refuses_line("abc", RUN, 1, False, GUARD)
        self.refuses_line(1, "abc", False, GUARD, RUN)
        self.refuses_line("abc", False, 1, GUARD, RUN)
        self.refuses_bottom(RUN, "abc")
        self.refuses_thread(1, "abc", RUN)
        self.refuses_thread("abc", RUN, 1)


if __name__ == "__main__":
    unittest.main()
