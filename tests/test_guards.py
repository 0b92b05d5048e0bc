"""What becomes of each knock: shut out, merged or let by."""

import unittest

from knockwell.plans import Plan, line
from knockwell.runs import run
from samples import names_of


def one_line(guard, top=(("run", 1),), up=False):
    return Plan([line("a", list(top), guard=guard, up=up)])


def counted(plan, ticks, many=60):
    """The sums of line a, where knocks come at these ticks."""
    return run(plan, [(tick, "a") for tick in ticks], ticks=many).sums()["a"]


class Rest(unittest.TestCase):
    def test_the_last_tick_of_a_rest_and_the_first_behind_it(self):
        plan = one_line((1, 1, 3))
        self.assertEqual(counted(plan, [0, 0, 1]), (1, 0, 2, 1, 0))
        self.assertEqual(counted(plan, [0, 0, 2]), (1, 0, 2, 1, 0))
        self.assertEqual(counted(plan, [0, 0, 3]), (2, 0, 1, 2, 0))

    def test_the_longest_rest(self):
        plan = one_line((1, 1, 60))
        self.assertEqual(counted(plan, [0, 0, 59], 100), (1, 0, 2, 1, 0))
        self.assertEqual(counted(plan, [0, 0, 60], 100), (2, 0, 1, 2, 0))

    def test_knocks_within_a_rest_do_not_lengthen_it(self):
        plan = one_line((1, 1, 4))
        self.assertEqual(counted(plan, [0, 0, 1, 2, 2, 3, 4]), (2, 0, 5, 2, 0))

    def test_the_tick_that_shuts_is_the_first_of_them(self):
        plan = one_line((1, 1, 1))
        self.assertEqual(counted(plan, [0, 0, 0]), (1, 0, 2, 1, 0))
        self.assertEqual(counted(plan, [0, 0, 1]), (2, 0, 1, 2, 0))

    def test_one_line_that_is_shut_shuts_no_other(self):
        plan = Plan([line("a", [("run", 1)], guard=(1, 60, 60)), line("b", [("run", 1)], rank=2, guard=(1, 60, 60))])
        sums = run(plan, [(0, "a"), (0, "a"), (1, "b"), (1, "a"), (2, "b")]).sums()
        self.assertEqual(sums, {"a": (1, 0, 2, 1, 0), "b": (1, 0, 1, 1, 0)})


class Wide(unittest.TestCase):
    def test_the_last_tick_that_counts_and_the_first_that_does_not(self):
        plan = one_line((1, 5, 1))
        self.assertEqual(counted(plan, [0, 4]), (1, 0, 1, 1, 0))
        self.assertEqual(counted(plan, [0, 5]), (2, 0, 0, 2, 0))
        self.assertEqual(counted(plan, [7, 11]), (1, 0, 1, 1, 0))
        self.assertEqual(counted(plan, [7, 12]), (2, 0, 0, 2, 0))

    def test_the_widest(self):
        plan = one_line((1, 60, 1))
        self.assertEqual(counted(plan, [3, 62], 100), (1, 0, 1, 1, 0))
        self.assertEqual(counted(plan, [3, 63], 100), (2, 0, 0, 2, 0))

    def test_this_tick_is_counted(self):
        self.assertEqual(counted(one_line((2, 1, 1)), [0, 0, 0]), (1, 1, 1, 1, 0))

    def test_a_rest_that_is_over_does_not_clear_what_was_let_by(self):
        plan = one_line((1, 10, 1))
        self.assertEqual(counted(plan, [0, 1, 2, 9]), (1, 0, 3, 1, 0))
        self.assertEqual(counted(plan, [0, 1, 2, 9, 10]), (2, 0, 3, 2, 0))

    def test_the_default_guard(self):
        plan = Plan([line("a", [("run", 1)])])
        self.assertEqual(counted(plan, [0, 1, 2]), (3, 0, 0, 3, 0))
        self.assertEqual(counted(plan, [0, 1, 2, 9]), (3, 0, 1, 3, 0))
        self.assertEqual(counted(plan, [0, 1, 2, 9, 28]), (3, 0, 2, 3, 0))
        self.assertEqual(counted(plan, [0, 1, 2, 9, 29]), (4, 0, 1, 4, 0))
        self.assertEqual(counted(plan, [0, 1, 2, 10]), (4, 0, 0, 4, 0))


class LetBy(unittest.TestCase):
    def test_merged_ones_count(self):
        self.assertEqual(counted(one_line((2, 10, 1)), [0, 0, 1]), (1, 1, 1, 1, 0))
        self.assertEqual(counted(one_line((3, 10, 1)), [0, 0, 0, 5]), (1, 2, 1, 1, 0))

    def test_shut_out_ones_do_not(self):
        self.assertEqual(counted(one_line((1, 3, 1)), [0, 1, 2, 3]), (2, 0, 2, 2, 0))
        self.assertEqual(counted(one_line((2, 4, 1)), [0, 1, 2, 3, 4, 5]), (4, 0, 2, 4, 0))

    def test_as_many_as_most(self):
        for most in range(1, 10):
            plan = one_line((most, 60, 1))
            self.assertEqual(counted(plan, range(most)), (most, 0, 0, most, 0))
            self.assertEqual(counted(plan, range(most + 1)), (most, 0, 1, most, 0))

    def test_the_least_guard(self):
        plan = one_line((1, 1, 1))
        self.assertEqual(counted(plan, [0, 0, 1, 1, 2]), (3, 0, 2, 3, 0))
        self.assertEqual(counted(plan, range(20)), (20, 0, 0, 20, 0))

    def test_a_line_that_waits_is_shut_all_the_same_and_waits_on(self):
        plan = Plan([line("a", [("run", 1)], guard=(1, 1, 9)), line("b", [("run", 5)], rank=2)])
        one = run(plan, [(0, "b"), (1, "a"), (1, "a")], ticks=8)
        self.assertEqual(names_of(one), "bbbbba..")
        self.assertEqual(one.sums()["a"], (1, 0, 1, 1, 0))


class WhileBegun(unittest.TestCase):
    def test_a_latched_line_waits_anew(self):
        plan = one_line((9, 1, 1), [("run", 3)])
        one = run(plan, [(0, "a"), (1, "a"), (2, "a")], ticks=8)
        self.assertEqual(names_of(one), "aaaaaa..")
        self.assertEqual(one.sums()["a"], (2, 1, 0, 2, 0))
        self.assertEqual(one.waits(), {"a": 2})

    def test_a_line_that_is_up_and_not_yet_answered_is_merged(self):
        plan = one_line((9, 1, 1), [("run", 3), ("answer", "a")], up=True)
        one = run(plan, [(0, "a"), (1, "a"), (2, "a")], ticks=8)
        self.assertEqual(names_of(one), "aaa.....")
        self.assertEqual(one.sums()["a"], (1, 2, 0, 1, 0))

    def test_a_line_that_is_up_and_answered_waits_anew(self):
        plan = one_line((9, 1, 1), [("answer", "a"), ("run", 3)], up=True)
        one = run(plan, [(0, "a"), (1, "a"), (2, "a")], ticks=8)
        self.assertEqual(names_of(one), "aaaaaa..")
        self.assertEqual(one.sums()["a"], (2, 1, 0, 2, 0))

    def test_a_knock_that_comes_ahead_of_the_answer_in_its_tick_is_merged(self):
        plan = one_line((9, 1, 1), [("run", 2), ("answer", "a"), ("run", 2)], up=True)
        merged = run(plan, [(0, "a"), (2, "a")], ticks=9)
        self.assertEqual((names_of(merged), merged.sums()["a"]), ("aaaa.....", (1, 1, 0, 1, 0)))
        anew = run(plan, [(0, "a"), (3, "a")], ticks=9)
        self.assertEqual((names_of(anew), anew.sums()["a"]), ("aaaaaaaa.", (2, 0, 0, 2, 0)))


if __name__ == "__main__":
    unittest.main()
