"""What is chosen in each tick, and what each step does."""

import unittest

from knockwell.bench import Bench
from knockwell.plans import Plan, line
from knockwell.runs import run
from samples import names_of

FREE = (9, 1, 1)


def a_plan(tops, bottoms=(), threads=(), up=()):
    """Lines a, b, c .. of ranks 1, 2, 3 .. with these tops; bottoms m, n ..; threads t, u .. of ranks 1, 2 .."""
    lines = [line("abcde"[at], top, rank=at + 1, guard=FREE, up="abcde"[at] in up) for at, top in enumerate(tops)]
    return Plan(lines, bottoms=[("mnop"[at], steps) for at, steps in enumerate(bottoms)],
                threads=[("tuvw"[at], at + 1, steps) for at, steps in enumerate(threads)])


def knocks_of(text):
    """Knocks written as `0a 3b 3a`."""
    return [(int(word[:-1]), word[-1]) for word in text.split()]


class Case(unittest.TestCase):
    def runs(self, plan, knocks, names, masks=None):
        one = run(plan, knocks_of(knocks), ticks=len(names))
        self.assertEqual(names_of(one), names)
        if masks is not None:
            self.assertEqual("".join(str(many) for many in one.masks()), masks)
        return one


class Tops(Case):
    TWO = a_plan([[("run", 4)], [("run", 2)]])

    def test_nobody_runs_where_nothing_is_to_do(self):
        self.runs(self.TWO, "", "....", "0000")
        self.runs(self.TWO, "2a", "..aaaa..")

    def test_a_top_begins_within_a_lesser_one(self):
        self.runs(self.TWO, "0a 1b", "abbaaa.")
        self.runs(self.TWO, "0a 3b", "aaabba.")

    def test_one_of_a_lesser_rank_does_not(self):
        self.runs(self.TWO, "0b 1a", "bbaaaa.")

    def test_of_those_that_wait_the_greatest_begins(self):
        self.runs(self.TWO, "0a 0b", "bbaaaa.")
        self.runs(self.TWO, "0b 0a", "bbaaaa.")
        self.runs(a_plan([[("run", 1)]] * 5), "0c 0a 0e 0b 0d", "edcba.")

    def test_rank_and_not_turn_tells(self):
        plan = Plan([line("a", [("run", 2)], rank=50), line("b", [("run", 2)], rank=99), line("c", [("run", 2)])])
        self.runs(plan, "0c 1a 1b", "cbbaac.")

    def test_a_line_whose_own_top_is_begun(self):
        one = self.runs(self.TWO, "0a 1a", "aaaaaaaa.")
        self.assertEqual(one.sums()["a"], (2, 0, 0, 2, 0))
        self.assertEqual(one.waits()["a"], 3)

    def test_a_line_whose_own_top_is_begun_beneath_another(self):
        one = self.runs(self.TWO, "0a 1b 1a", "abbaaaaaaa.")
        self.assertEqual(one.sums()["a"], (2, 0, 0, 2, 0))
        self.assertEqual(one.waits()["a"], 5)

    def test_one_between_waits_for_the_greater_and_goes_ahead_of_the_lesser(self):
        plan = a_plan([[("run", 3)], [("run", 2)], [("run", 2)]])
        self.runs(plan, "0a 1c 2b", "accbbaa.")
        self.runs(plan, "0a 1b 2c", "abccbaa.")

    def test_a_top_that_is_over_at_the_end_of_a_tick(self):
        bench = Bench(self.TWO)
        bench.knock("b")
        bench.go()
        self.assertEqual(bench.nested(), ["b"])
        bench.go()
        self.assertEqual(bench.nested(), [])


class Masks(Case):
    def test_while_a_mask_is_on_no_top_begins(self):
        plan = a_plan([[("mask",), ("run", 2), ("open",), ("run", 2)], [("run", 1)]])
        self.runs(plan, "0a 1b", "aabaa.", "110000")

    def test_a_mask_put_on_in_a_later_tick(self):
        plan = a_plan([[("run", 1), ("mask",), ("run", 2), ("open",), ("run", 1)], [("run", 1)]])
        self.runs(plan, "0a 1b", "abaaa.", "001100")
        self.runs(plan, "0a 2b", "aaaba.", "011000")

    def test_masks_within_masks(self):
        steps = [("mask",), ("mask",), ("run", 1), ("open",), ("run", 1), ("open",), ("run", 1)]
        self.runs(a_plan([steps, [("run", 1)]]), "0a 1b", "aaba.", "21000")

    def test_two_stretches_side_by_side_let_a_top_begin_between(self):
        steps = [("mask",), ("run", 2), ("open",), ("mask",), ("run", 2), ("open",)]
        self.runs(a_plan([steps, [("run", 1)]]), "0a 1b", "aabaa.", "110110")

    def test_a_mask_left_on_is_off_when_the_top_is_over(self):
        plan = a_plan([[("mask",), ("mask",), ("run", 2)], [("run", 1)]])
        self.runs(plan, "0a 1b", "aab.", "2200")

    def test_a_mask_left_on_behind_the_last_run(self):
        plan = a_plan([[("run", 1), ("mask",)], [("run", 1)]])
        self.runs(plan, "0a 0b", "ba.", "000")
        self.runs(plan, "0a 1a 2a", "aaa.", "0000")

    def test_a_nested_top_leaves_the_lesser_without_masks(self):
        plan = a_plan([[("run", 2)], [("mask",), ("run", 1)], [("run", 1)]])
        self.runs(plan, "0a 1b 2c", "abca.", "01000")

    def test_a_mask_left_on_by_a_bottom(self):
        plan = a_plan([[("later", "m"), ("run", 1)]], bottoms=[[("mask",), ("run", 2)]])
        self.runs(plan, "0a 2a", "ammamm.", "0110110")

    def test_a_mask_left_on_by_a_thread(self):
        plan = a_plan([[("wake", "t"), ("run", 1)]], threads=[[("mask",), ("run", 2)]])
        self.runs(plan, "0a 2a", "attatt.", "0110110")

    def test_a_thread_with_a_mask_is_gone_on_with_ahead_of_tops_and_bottoms(self):
        plan = a_plan([[("wake", "t"), ("run", 1)], [("later", "m"), ("run", 1)]], bottoms=[[("run", 1)]],
                      threads=[[("mask",), ("later", "m"), ("run", 2), ("open",), ("run", 1)]])
        self.runs(plan, "0a", "attmt.", "011000")
        self.runs(plan, "0a 2b", "attbmt.", "0110000")

    def test_masks_told_are_those_of_the_tick_as_it_ran(self):
        plan = a_plan([[("mask",), ("run", 1), ("open",), ("mask",), ("mask",), ("run", 1), ("mask",), ("run", 2)]])
        self.runs(plan, "1a", ".aaaa.", "012330")


class AtOnce(Case):
    """Steps that take no tick."""

    def test_ahead_of_a_run(self):
        plan = a_plan([[("wake", "t"), ("later", "m"), ("mask",), ("open",), ("run", 1)]], bottoms=[[("run", 1)]],
                      threads=[[("run", 1)]])
        self.runs(plan, "0a", "amt.")

    def test_between_runs(self):
        plan = a_plan([[("run", 1), ("wake", "t"), ("mask",), ("later", "m"), ("open",), ("run", 1)]],
                      bottoms=[[("run", 1)]], threads=[[("run", 1)]])
        self.runs(plan, "0a", "aamt.")

    def test_behind_the_last_run_of_a_top(self):
        plan = a_plan([[("run", 2)], [("run", 1), ("wake", "t")], [("run", 1)]], threads=[[("run", 1)]])
        self.runs(plan, "0b", "bt.")
        self.runs(plan, "0a 0b", "baat.")
        self.runs(plan, "0b 1c", "bct.")
        bench = Bench(plan)
        bench.knock("b")
        bench.go()
        self.assertEqual(bench.nested(), ["b"])
        bench.knock("c")
        bench.go()
        self.assertEqual(bench.nested(), ["b"])
        bench.go()
        self.assertEqual(bench.nested(), [])

    def test_a_line_begins_again_in_the_very_tick_in_which_its_top_is_over(self):
        one = self.runs(a_plan([[("run", 1), ("later", "m")]], bottoms=[[("run", 1)]]), "0a 1a", "aam.")
        self.assertEqual(one.waits()["a"], 0)
        self.assertEqual(one.sums()["a"], (2, 0, 0, 2, 0))

    def test_behind_the_last_run_of_a_bottom_and_of_a_thread(self):
        plan = a_plan([[("later", "m"), ("run", 1)]], bottoms=[[("run", 1), ("wake", "t")], [("run", 1)]],
                      threads=[[("run", 1), ("later", "n")]])
        self.runs(plan, "0a", "amtn.")

    def test_a_greater_line_begins_ahead_of_steps_that_take_no_tick(self):
        plan = a_plan([[("run", 1), ("mask",), ("run", 1)], [("run", 1)]])
        self.runs(plan, "0a 1b", "aba.", "0010")


class Bottoms(Case):
    def test_behind_the_tops(self):
        plan = a_plan([[("later", "m"), ("run", 2)], [("run", 1)]], bottoms=[[("run", 2)]])
        self.runs(plan, "0a 0b", "baamm.")
        self.runs(plan, "0a 1b", "abamm.")

    def test_a_top_begins_within_a_bottom(self):
        plan = a_plan([[("run", 1)], [("later", "m"), ("run", 1)]], bottoms=[[("run", 3)]])
        self.runs(plan, "0b 2a", "bmamm.")

    def test_put_off_twice(self):
        plan = a_plan([[("later", "m"), ("run", 1), ("later", "m")]], bottoms=[[("run", 2)]])
        self.runs(plan, "0a", "amm.")
        self.runs(plan, "0a 1a", "aamm.")

    def test_put_off_again_once_it_is_begun(self):
        plan = a_plan([[("later", "m"), ("run", 1)]], bottoms=[[("run", 3)]])
        self.runs(plan, "0a 2a", "amammmmm.")
        self.runs(plan, "0a 2a 3a", "amaammmmm.")

    def test_put_off_while_others_wait(self):
        plan = a_plan([[("later", "n"), ("later", "m"), ("later", "n"), ("later", "o"), ("run", 1)]],
                      bottoms=[[("run", 1)], [("run", 2)], [("run", 1)]])
        self.runs(plan, "0a", "annmo.")

    def test_put_off_again_it_stands_behind_the_others(self):
        plan = a_plan([[("later", "m"), ("later", "n"), ("run", 1)]], bottoms=[[("run", 2)], [("run", 1)]])
        self.runs(plan, "0a 2a", "amamnmm.")

    def test_a_bottom_that_puts_off_itself(self):
        plan = a_plan([[("later", "m"), ("later", "n"), ("run", 1)]], bottoms=[[("run", 1), ("later", "m")],
                                                                              [("run", 2)]])
        self.runs(plan, "0a", "amnnmmmm")
        plan = a_plan([[("later", "m"), ("run", 1)]], bottoms=[[("later", "m"), ("run", 1)]])
        self.runs(plan, "0a", "ammmmmm")

    def test_no_bottom_begins_within_another(self):
        plan = a_plan([[("later", "m"), ("run", 1)]], bottoms=[[("later", "n"), ("run", 2)], [("run", 1)]])
        self.runs(plan, "0a", "ammn.")

    def test_bottoms_go_ahead_of_threads(self):
        plan = a_plan([[("wake", "t"), ("run", 1)], [("later", "m"), ("run", 1)]], bottoms=[[("run", 2)]],
                      threads=[[("run", 3)]])
        self.runs(plan, "0a 2b", "atbmmtt.")

    def test_put_off_by_a_thread_it_begins_at_once(self):
        plan = a_plan([[("wake", "t"), ("run", 1)]], bottoms=[[("run", 2)]], threads=[[("later", "m"), ("run", 1)]])
        self.runs(plan, "0a", "ammt.")

    def test_two_bottoms_one_behind_the_other(self):
        plan = a_plan([[("later", "m"), ("run", 1)], [("later", "n"), ("run", 1)]], bottoms=[[("run", 2)], [("run", 2)]])
        self.runs(plan, "0a 0b", "bannmm.")


class Threads(Case):
    def test_woken_many_times(self):
        plan = a_plan([[("wake", "t"), ("wake", "t"), ("run", 1), ("wake", "t")]], threads=[[("run", 2)]])
        self.runs(plan, "0a", "atttttt.")

    def test_woken_while_it_is_begun(self):
        plan = a_plan([[("wake", "t"), ("run", 1)]], threads=[[("run", 3), ("later", "m")]], bottoms=[[("run", 1)]])
        self.runs(plan, "0a 2a", "atattmtttm.")

    def test_woken_by_itself(self):
        plan = a_plan([[("wake", "t"), ("run", 1)]], threads=[[("run", 2), ("wake", "t")]])
        self.runs(plan, "1a", ".atttttttt")
        plan = a_plan([[("wake", "t"), ("run", 1)]], threads=[[("wake", "t"), ("run", 1), ("wake", "t")]])
        self.runs(plan, "1a", ".atttttttt")

    def test_the_greatest_rank_goes_first(self):
        plan = a_plan([[("wake", "t"), ("wake", "v"), ("wake", "u"), ("run", 1)]], threads=[[("run", 2)]] * 3)
        self.runs(plan, "0a", "avvuutt.")

    def test_rank_and_not_turn_tells(self):
        plan = Plan([line("a", [("wake", "t"), ("wake", "u"), ("wake", "v"), ("run", 1)])],
                    threads=[("t", 50, [("run", 2)]), ("u", 99, [("run", 2)]), ("v", 1, [("run", 2)])])
        self.runs(plan, "0a", "auuttvv.")

    def test_a_greater_one_woken_while_a_lesser_is_begun(self):
        plan = a_plan([[("wake", "t"), ("run", 1)], [("wake", "u"), ("run", 1)]], threads=[[("run", 3)], [("run", 2)]])
        self.runs(plan, "0a 2b", "atbuutt.")

    def test_a_lesser_one_woken_while_a_greater_is_begun(self):
        plan = a_plan([[("wake", "t"), ("run", 1)], [("wake", "u"), ("run", 1)]], threads=[[("run", 3)], [("run", 2)]])
        self.runs(plan, "0b 2a", "buauttt.")

    def test_a_greater_one_woken_by_a_lesser(self):
        plan = a_plan([[("wake", "t"), ("run", 1)]], threads=[[("run", 1), ("wake", "u"), ("run", 1)], [("run", 2)]])
        self.runs(plan, "0a", "atuut.")

    def test_the_same_with_a_mask_on(self):
        steps = [("mask",), ("run", 1), ("wake", "u"), ("run", 1), ("open",), ("run", 1)]
        plan = a_plan([[("wake", "t"), ("run", 1)]], threads=[steps, [("run", 2)]])
        self.runs(plan, "0a", "attuut.", "0110000")

    def test_the_same_with_a_mask_left_on(self):
        steps = [("mask",), ("wake", "u"), ("run", 2), ("wake", "u")]
        plan = a_plan([[("wake", "t"), ("run", 1)]], threads=[steps, [("run", 1)]])
        self.runs(plan, "0a", "attuu.", "011000")

    def test_with_masks_within_masks(self):
        steps = [("mask",), ("mask",), ("wake", "u"), ("run", 1), ("open",), ("run", 1), ("open",), ("run", 1)]
        plan = a_plan([[("wake", "t"), ("run", 1)]], threads=[steps, [("run", 2)]])
        self.runs(plan, "0a", "attuut.", "0210000")

    def test_a_greater_one_begun_ahead_of_a_lesser_that_would_mask(self):
        plan = a_plan([[("wake", "t"), ("wake", "u"), ("run", 1)]],
                      threads=[[("mask",), ("run", 1)], [("run", 1), ("mask",), ("run", 1)]])
        self.runs(plan, "0a", "auut.", "00110")

    def test_a_lesser_one_that_was_begun_goes_on_behind(self):
        plan = a_plan([[("wake", "t"), ("run", 1)], [("wake", "u"), ("wake", "t"), ("run", 1)]],
                      threads=[[("run", 2)], [("run", 1)]])
        self.runs(plan, "0a 2b", "atbuttt.")


class Answers(Case):
    def test_ahead_of_its_own_run(self):
        plan = a_plan([[("answer", "a"), ("run", 2)]], up="a")
        one = self.runs(plan, "0a", "aa..")
        self.assertEqual(one.sums()["a"], (1, 0, 0, 1, 0))
        one = self.runs(plan, "0a 1a", "aaaa.")
        self.assertEqual(one.sums()["a"], (2, 0, 0, 2, 0))
        self.assertEqual(one.waits()["a"], 1)

    def test_behind_its_own_run(self):
        plan = a_plan([[("run", 2), ("answer", "a")]], up="a")
        one = self.runs(plan, "0a 1a", "aa..")
        self.assertEqual(one.sums()["a"], (1, 1, 0, 1, 0))
        self.assertEqual(self.runs(plan, "0a 1a", "aa").sums()["a"], (1, 1, 0, 1, 1))

    def test_never(self):
        one = self.runs(a_plan([[("run", 2)]], up="a"), "0a", "aaaaaaa")
        self.assertEqual(one.sums()["a"], (1, 0, 0, 4, 1))
        self.assertEqual(one.waits()["a"], 0)

    def test_one_that_is_never_answered_keeps_lesser_ones_bottoms_and_threads_waiting(self):
        plan = a_plan([[("run", 1)], [("later", "m"), ("wake", "t"), ("run", 1)], [("run", 1)]], up="b",
                      bottoms=[[("run", 1)]], threads=[[("run", 1)]])
        one = self.runs(plan, "0a 0b 5c", "bbbbbcbbbb")
        self.assertEqual(one.sums()["a"], (1, 0, 0, 0, 1))

    def test_by_another_top(self):
        plan = a_plan([[("run", 3)], [("answer", "a"), ("run", 1)]], up="a")
        one = self.runs(plan, "0a 4b", "aaaabaa..")
        self.assertEqual(one.sums()["a"], (1, 0, 0, 2, 0))

    def test_ahead_of_its_top_by_another(self):
        plan = a_plan([[("run", 1)], [("answer", "a"), ("run", 1)]], up="a")
        one = self.runs(plan, "0a 0b", "b..")
        self.assertEqual(one.sums()["a"], (1, 0, 0, 0, 0))
        self.assertEqual(one.waits()["a"], 0)

    def test_by_a_bottom_and_by_a_thread(self):
        plan = a_plan([[("run", 1)], [("later", "m"), ("run", 1)]], up="a",
                      bottoms=[[("mask",), ("run", 2), ("answer", "a")]])
        one = self.runs(plan, "0b 2a", "bmm..", "01100")
        self.assertEqual(one.sums()["a"], (1, 0, 0, 0, 0))
        plan = a_plan([[("run", 1)], [("wake", "t"), ("run", 1)]], up="a",
                      threads=[[("mask",), ("run", 2), ("answer", "a"), ("open",)]])
        one = self.runs(plan, "0b 2a", "btt..", "01100")
        self.assertEqual(one.sums()["a"], (1, 0, 0, 0, 0))

    def test_of_a_latched_line_nothing(self):
        plan = a_plan([[("run", 1)], [("answer", "a"), ("run", 1)]])
        one = self.runs(plan, "0a 0b", "ba.")
        self.assertEqual(one.sums()["a"], (1, 0, 0, 1, 0))
        plan = a_plan([[("answer", "a"), ("run", 2), ("answer", "a")]])
        self.assertEqual(self.runs(plan, "0a 1a", "aaaa.").sums()["a"], (2, 0, 0, 2, 0))

    def test_of_a_line_that_does_not_wait_nothing(self):
        plan = a_plan([[("answer", "b"), ("run", 1)], [("answer", "b"), ("run", 1)]], up="b")
        one = self.runs(plan, "0a 1b", "ab.")
        self.assertEqual(one.sums()["b"], (1, 0, 0, 1, 0))


if __name__ == "__main__":
    unittest.main()
