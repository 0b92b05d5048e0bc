"""What is told of a run."""

import unittest

from knockwell.plans import Plan, line
from knockwell.runs import Run, run

FREE = (9, 1, 1)
PLAN = Plan([line("low", [("run", 2), ("later", "bot")], guard=FREE), line("high", [("mask",), ("run", 1)], rank=9)],
            bottoms=[("bot", [("wake", "thr"), ("run", 1)])], threads=[("thr", 5, [("run", 2)])])
KNOCKS = [(1, "low"), (2, "high"), (2, "low"), (8, "high")]
WHO = [None, ("top", "low"), ("top", "high"), ("top", "low"), ("top", "low"), ("top", "low"), ("bottom", "bot"),
       ("thread", "thr"), ("top", "high"), ("thread", "thr"), None, None]
SPANS = [(0, 1, None), (1, 2, ("top", "low")), (2, 3, ("top", "high")), (3, 6, ("top", "low")),
         (6, 7, ("bottom", "bot")), (7, 8, ("thread", "thr")), (8, 9, ("top", "high")), (9, 10, ("thread", "thr")),
         (10, 12, None)]
MASKS = [0, 0, 1, 0, 0, 0, 0, 0, 1, 0, 0, 0]


def a_run(ticks=12):
    return run(PLAN, KNOCKS, ticks=ticks)


class Told(unittest.TestCase):
    def test_a_run_of_all_kinds(self):
        one = a_run()
        self.assertIs(type(one), Run)
        self.assertEqual(one.who(), WHO)
        self.assertEqual(one.spans(), SPANS)
        self.assertEqual(one.masks(), MASKS)
        self.assertEqual(one.sums(), {"low": (2, 0, 0, 2, 0), "high": (2, 0, 0, 2, 0)})
        self.assertEqual(one.waits(), {"low": 2, "high": 0})

    def test_kinds_of_values(self):
        one = a_run()
        for told in (one.who(), one.spans(), one.masks()):
            self.assertIs(type(told), list)
        self.assertEqual({type(who) for who in one.who()}, {tuple, type(None)})
        self.assertEqual({type(span) for span in one.spans()}, {tuple})
        self.assertEqual({type(many) for many in one.masks()}, {int})
        self.assertIs(type(one.sums()), dict)
        self.assertIs(type(one.waits()), dict)
        for counts in one.sums().values():
            self.assertIs(type(counts), tuple)
            self.assertEqual([type(number) for number in counts], [int] * 5)
        self.assertEqual({type(number) for number in one.waits().values()}, {int})

    def test_each_method_stands_in_the_class_itself(self):
        for word in ("who", "spans", "masks", "sums", "waits"):
            self.assertIn(word, vars(Run))

    def test_no_tick(self):
        one = run(PLAN, [(0, "low"), (0, "high")], ticks=0)
        self.assertEqual((one.who(), one.spans(), one.masks()), ([], [], []))
        self.assertEqual(one.sums(), {"low": (0, 0, 0, 0, 0), "high": (0, 0, 0, 0, 0)})
        self.assertEqual(one.waits(), {"low": 0, "high": 0})

    def test_a_shorter_run_is_the_beginning_of_a_longer_one(self):
        for ticks in range(13):
            self.assertEqual(a_run(ticks).who(), WHO[:ticks])
            self.assertEqual(a_run(ticks).masks(), MASKS[:ticks])

    def test_dicts_are_in_the_plans_turn(self):
        names = ["d", "a", "e", "c", "b"]
        plan = Plan([line(name, [("run", 1)], rank=7 * (at + 1) % 5 + 1) for at, name in enumerate(names)])
        one = run(plan, [(0, "a"), (0, "b"), (1, "d")])
        self.assertEqual(list(one.sums()), names)
        self.assertEqual(list(one.waits()), names)

    def test_what_is_told_is_new_each_time(self):
        one = a_run()
        for _ in range(2):
            for told in (one.who(), one.spans(), one.masks()):
                told.append("more")
                told[0] = "other"
            for told in (one.sums(), one.waits()):
                told["low"] = "other"
                del told["high"]
            self.assertEqual((one.who(), one.spans(), one.masks()), (WHO, SPANS, MASKS))
            self.assertEqual(one.sums(), {"low": (2, 0, 0, 2, 0), "high": (2, 0, 0, 2, 0)})
            self.assertEqual(one.waits(), {"low": 2, "high": 0})
        self.assertEqual(a_run().who(), WHO)

    def test_runs_change_no_plan(self):
        text = repr((PLAN.lines(), PLAN.bottoms(), PLAN.threads()))
        a_run()
        self.assertEqual(repr((PLAN.lines(), PLAN.bottoms(), PLAN.threads())), text)


class Spans(unittest.TestCase):
    def test_at_the_beginning_at_the_end_and_over_none(self):
        plan = Plan([line("a", [("run", 2)], guard=FREE)])
        self.assertEqual(run(plan, [], ticks=5).spans(), [(0, 5, None)])
        self.assertEqual(run(plan, [(0, "a")], ticks=2).spans(), [(0, 2, ("top", "a"))])
        self.assertEqual(run(plan, [(0, "a")], ticks=1).spans(), [(0, 1, ("top", "a"))])
        self.assertEqual(run(plan, [(0, "a"), (4, "a")], ticks=5).spans(),
                         [(0, 2, ("top", "a")), (2, 4, None), (4, 5, ("top", "a"))])
        self.assertEqual(run(plan, [(3, "a")], ticks=5).spans(), [(0, 3, None), (3, 5, ("top", "a"))])

    def test_one_top_twice_is_one_span(self):
        plan = Plan([line("a", [("run", 2)], guard=FREE)])
        self.assertEqual(run(plan, [(0, "a"), (1, "a")], ticks=5).spans(), [(0, 4, ("top", "a")), (4, 5, None)])

    def test_one_name_of_two_kinds_is_two_spans(self):
        plan = Plan([line("a", [("run", 1), ("later", "a")])], bottoms=[("a", [("run", 1), ("wake", "a")])],
                    threads=[("a", 1, [("run", 2)])])
        self.assertEqual(run(plan, [(0, "a")], ticks=4).spans(),
                         [(0, 1, ("top", "a")), (1, 2, ("bottom", "a")), (2, 4, ("thread", "a"))])


class Sums(unittest.TestCase):
    def test_each_of_the_five(self):
        plan = Plan([line("a", [("run", 4)], guard=(3, 60, 60))])
        one = run(plan, [(0, "a"), (1, "a"), (2, "a"), (3, "a"), (3, "a")], ticks=4)
        self.assertEqual(one.sums(), {"a": (2, 1, 2, 1, 1)})
        one = run(plan, [(0, "a"), (1, "a"), (2, "a"), (3, "a"), (3, "a")], ticks=5)
        self.assertEqual(one.sums(), {"a": (2, 1, 2, 2, 0)})

    def test_a_line_that_is_up_and_begun_waits_till_it_is_answered(self):
        plan = Plan([line("a", [("run", 2), ("answer", "a"), ("run", 2)], up=True)])
        self.assertEqual(run(plan, [(0, "a")], ticks=2).sums()["a"], (1, 0, 0, 1, 1))
        self.assertEqual(run(plan, [(0, "a")], ticks=3).sums()["a"], (1, 0, 0, 1, 0))


class Waits(unittest.TestCase):
    def test_a_line_that_never_waited(self):
        plan = Plan([line("a", [("run", 1)]), line("b", [("run", 1)], rank=2)])
        self.assertEqual(run(plan, [(0, "b")]).waits(), {"a": 0, "b": 0})

    def test_a_line_that_waited_and_never_began(self):
        plan = Plan([line("a", [("run", 1)]), line("b", [("run", 9)], rank=2)])
        one = run(plan, [(0, "b"), (1, "a")], ticks=9)
        self.assertEqual((one.waits(), one.sums()["a"]), ({"a": 0, "b": 0}, (1, 0, 0, 0, 1)))
        self.assertEqual(run(plan, [(0, "b"), (1, "a")], ticks=10).waits(), {"a": 8, "b": 0})

    def test_the_longest_of_several(self):
        plan = Plan([line("a", [("run", 1)], guard=FREE), line("b", [("run", 4)], rank=2, guard=FREE)])
        self.assertEqual(run(plan, [(0, "b"), (2, "a"), (10, "b"), (11, "a"), (20, "b"), (22, "a")]).waits()["a"], 3)
        self.assertEqual(run(plan, [(0, "b"), (2, "a"), (10, "a"), (20, "a")]).waits()["a"], 2)

    def test_it_is_counted_from_the_first_knock_and_not_from_merged_ones(self):
        plan = Plan([line("a", [("run", 1)], guard=FREE), line("b", [("run", 6)], rank=2)])
        self.assertEqual(run(plan, [(0, "b"), (1, "a"), (4, "a")]).waits()["a"], 5)

    def test_a_line_that_is_up_and_begins_more_than_once_in_one_wait(self):
        plan = Plan([line("a", [("run", 2)], up=True), line("b", [("run", 3)], rank=2)])
        one = run(plan, [(0, "b"), (1, "a")])
        self.assertEqual(one.waits()["a"], 2)
        self.assertGreater(one.sums()["a"][3], 20)

    def test_a_wait_that_was_answered_ahead_of_its_top_is_not_counted(self):
        plan = Plan([line("a", [("answer", "a"), ("run", 1)], up=True, guard=FREE),
                     line("b", [("run", 5), ("answer", "a")], rank=2)])
        one = run(plan, [(0, "b"), (1, "a")])
        self.assertEqual((one.waits()["a"], one.sums()["a"]), (0, (1, 0, 0, 0, 0)))
        one = run(plan, [(0, "b"), (1, "a"), (20, "b"), (23, "a"), (30, "a")])
        self.assertEqual((one.waits()["a"], one.sums()["a"]), (0, (3, 0, 0, 1, 0)))

    def test_a_wait_while_its_own_top_is_begun_ends_with_the_next_one(self):
        plan = Plan([line("a", [("answer", "a"), ("run", 6)], up=True, guard=FREE)])
        self.assertEqual(run(plan, [(0, "a"), (2, "a")]).waits()["a"], 4)


if __name__ == "__main__":
    unittest.main()
