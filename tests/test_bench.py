"""A bench: its deeds, what they refuse, its log and its looks."""

import inspect
import unittest

from knockwell.bench import Bench
from knockwell.errors import BadName, BadPlan, BadTicks, Full
from knockwell.plans import Plan, line
from knockwell.runs import Run, run
from samples import full_plan, lines_of, wrong

FREE = (9, 1, 1)
PLAN = Plan([line("a", [("run", 4)], guard=FREE), line("b", [("run", 2)], rank=2, guard=FREE),
             line("c", [("run", 1), ("later", "m")], rank=3, guard=FREE)], bottoms=[("m", [("run", 1)])])
A, B, C, M = ("top", "a"), ("top", "b"), ("top", "c"), ("bottom", "m")


def told_by(one):
    return one.who(), one.spans(), one.masks(), one.sums(), one.waits()


def looks(bench):
    """All but the log."""
    return bench.tick(), bench.nested(), told_by(bench.so_far())


def at_tick(tick, plan=PLAN):
    """A bench that has run so many ticks."""
    bench = Bench(plan)
    if tick > 0:
        bench.go(ticks=tick)
    return bench


class Case(unittest.TestCase):
    def refuses(self, kind, bench, word, *args, **more):
        """The deed is refused so; all but the log stays, and two pairs stand behind it."""
        before, log = looks(bench), bench.log()
        with self.assertRaises(kind) as caught:
            getattr(bench, word)(*args, **more)
        self.assertIs(type(caught.exception), kind)
        self.assertEqual(looks(bench), before)
        self.assertEqual(bench.log(), [*log, (word, "begun"), (word, "ended")])


class Begun(Case):
    def test_what_is_no_plan(self):
        for plan in [*wrong(), lines_of(1), (lines_of(1), [], []), PLAN.lines(), Plan]:
            with self.assertRaises(BadPlan) as caught:
                Bench(plan)
            self.assertIs(type(caught.exception), BadPlan)

    def test_a_new_one(self):
        bench = Bench(PLAN)
        self.assertEqual((bench.tick(), bench.log(), bench.nested()), (0, [], []))
        self.assertEqual(told_by(bench.so_far()), told_by(run(PLAN, [], ticks=0)))

    def test_each_method_stands_in_the_class_itself(self):
        for word in ("knock", "go", "until", "tick", "log", "nested", "so_far"):
            self.assertIn(word, vars(Bench))

    def test_arguments(self):
        self.assertEqual(str(inspect.signature(Bench)), "(plan)")
        self.assertEqual(str(inspect.signature(Bench.knock)), "(self, name)")
        self.assertEqual(str(inspect.signature(Bench.go)), "(self, *, ticks=1)")
        self.assertEqual(str(inspect.signature(Bench.until)), "(self, name, *, ticks=60)")
        bench = Bench(plan=PLAN)
        with self.assertRaises(TypeError):
            bench.go(1)
        with self.assertRaises(TypeError):
            bench.until("a", 1)
        bench.knock(name="b")
        self.assertEqual(bench.until(ticks=3, name="b"), 0)

    def test_two_benches_of_one_plan(self):
        one, other = Bench(PLAN), Bench(PLAN)
        one.knock("a")
        one.go(ticks=2)
        self.assertEqual((other.tick(), other.log(), other.nested()), (0, [], []))
        self.assertEqual(other.go(ticks=2), [None, None])


class Knock(Case):
    def test_it_tells_none_and_comes_at_the_next_tick(self):
        bench = Bench(PLAN)
        self.assertIsNone(bench.knock("a"))
        self.assertEqual(bench.so_far().sums()["a"], (0, 0, 0, 0, 0))
        self.assertEqual((bench.tick(), bench.nested()), (0, []))
        self.assertEqual(bench.go(), [A])
        self.assertEqual(bench.so_far().sums()["a"], (1, 0, 0, 1, 0))

    def test_several_come_in_turn_and_once(self):
        bench = Bench(Plan([line("a", [("run", 1)], guard=(1, 5, 5)), line("b", [("run", 1)], rank=2)]))
        for name in ("a", "b", "a", "b"):
            bench.knock(name)
        self.assertEqual(bench.go(ticks=3), [B, A, None])
        self.assertEqual(bench.so_far().sums(), {"a": (1, 0, 1, 1, 0), "b": (1, 1, 0, 1, 0)})

    def test_no_name(self):
        bench = at_tick(1)
        for name in [*wrong(), "d", "m", "A", "", b"a", ["a"], ("a",), {"a": 1}]:
            self.refuses(BadName, bench, "knock", name)
        self.assertEqual(bench.go(ticks=2), [None, None])

    def test_400_and_one_more(self):
        bench = Bench(PLAN)
        for at in range(400):
            bench.knock("abc"[at % 3])
        self.refuses(Full, bench, "knock", "a")
        bench.go()
        sums = bench.so_far().sums()
        self.assertEqual(sum(sum(sums[name][:3]) for name in "abc"), 400)
        self.refuses(Full, bench, "knock", "b")

    def test_refused_ones_are_not_counted(self):
        bench = Bench(PLAN)
        for _ in range(300):
            with self.assertRaises(BadName):
                bench.knock("d")
        for _ in range(400):
            bench.knock("a")
        self.refuses(Full, bench, "knock", "a")

    def test_400_over_many_ticks(self):
        bench = Bench(PLAN)
        for at in range(400):
            bench.knock("a")
            bench.go()
        self.refuses(Full, bench, "knock", "a")

    def test_tick_500_and_one_beyond(self):
        bench = at_tick(500)
        bench.knock("a")
        self.assertEqual(bench.go(), [A])
        self.assertEqual(bench.tick(), 501)
        self.refuses(Full, bench, "knock", "a")
        self.refuses(Full, at_tick(900), "knock", "a")

    def test_no_name_ahead_of_full(self):
        bench = at_tick(501)
        for name in (None, "d", 0, []):
            self.refuses(BadName, bench, "knock", name)
        self.refuses(Full, bench, "knock", "a")


class Go(Case):
    def test_it_tells_what_ran_each(self):
        bench = Bench(PLAN)
        self.assertEqual(bench.go(), [None])
        bench.knock("a")
        bench.knock("c")
        self.assertEqual(bench.go(ticks=7), [C, A, A, A, A, M, None])
        self.assertEqual(bench.tick(), 8)

    def test_what_it_tells_is_new(self):
        bench = Bench(PLAN)
        told = bench.go(ticks=3)
        self.assertIs(type(told), list)
        told.append("more")
        self.assertEqual(bench.so_far().who(), [None] * 3)

    def test_how_many(self):
        self.assertEqual(Bench(PLAN).go(ticks=900), [None] * 900)
        bench = at_tick(899)
        self.assertEqual(bench.go(), [None])
        self.assertEqual(bench.tick(), 900)
        for ticks in (1, 2, 900):
            self.refuses(BadTicks, bench, "go", ticks=ticks)
        self.refuses(BadTicks, bench, "go")

    def test_no_number(self):
        bench = at_tick(1)
        for ticks in [*wrong(1, 100), 0, -1, 901, True, False, "1", [1], (1,), None]:
            self.refuses(BadTicks, bench, "go", ticks=ticks)

    def test_beyond_900(self):
        bench = at_tick(1)
        self.refuses(BadTicks, bench, "go", ticks=900)
        self.assertEqual(len(bench.go(ticks=899)), 899)
        bench = at_tick(890)
        self.refuses(BadTicks, bench, "go", ticks=11)
        self.assertEqual(len(bench.go(ticks=10)), 10)

    def test_knocks_told_stay_where_it_is_refused(self):
        bench = Bench(PLAN)
        bench.knock("b")
        self.refuses(BadTicks, bench, "go", ticks=0)
        self.assertEqual(bench.go(), [B])


class Until(Case):
    def test_it_tells_the_tick_which_is_run_too(self):
        bench = Bench(PLAN)
        bench.knock("a")
        bench.knock("b")
        self.assertEqual(bench.until("a"), 2)
        self.assertEqual(bench.tick(), 3)
        self.assertEqual(bench.nested(), ["a"])
        self.assertEqual(bench.so_far().who(), [B, B, A])

    def test_one_that_begins_at_once(self):
        bench = at_tick(5)
        bench.knock("c")
        self.assertEqual(bench.until("c"), 5)
        self.assertEqual((bench.tick(), bench.nested()), (6, ["c"]))

    def test_one_that_is_begun_must_begin_once_more(self):
        bench = Bench(PLAN)
        bench.knock("a")
        bench.go()
        self.refuses(BadTicks, bench, "until", "a")
        bench.knock("a")
        self.assertEqual(bench.until("a"), 4)

    def test_a_top_that_is_begun_and_over_within_one_tick_counts(self):
        bench = Bench(Plan([line("a", [("run", 1)])]))
        bench.knock("a")
        self.assertEqual(bench.until("a", ticks=1), 0)
        self.assertEqual(bench.nested(), [])

    def test_within_so_many_ticks(self):
        for ticks in (1, 2):
            bench = Bench(PLAN)
            bench.knock("a")
            bench.knock("b")
            self.refuses(BadTicks, bench, "until", "a", ticks=ticks)
            self.assertEqual(bench.until("a", ticks=3), 2)

    def test_the_ticks_that_are_left_out(self):
        plan = Plan([line("a", [("run", 1)]), line("b", [("run", 9)] * 7, rank=2),
                     line("c", [("run", 9)] * 6 + [("run", 5)], rank=3)])
        bench = Bench(plan)
        bench.knock("a")
        bench.knock("c")
        self.assertEqual(bench.until("a"), 59)
        bench = Bench(plan)
        bench.knock("a")
        bench.knock("b")
        self.refuses(BadTicks, bench, "until", "a")
        self.assertEqual(bench.until("a", ticks=64), 63)

    def test_ahead_of_tick_900(self):
        plan = Plan([line("a", [("run", 1)]), line("b", [("run", 1)], rank=2, up=True, guard=FREE),
                     line("c", [("answer", "b"), ("run", 9)], rank=3, guard=FREE)])
        bench = Bench(plan)
        bench.knock("a")
        bench.knock("b")
        self.refuses(BadTicks, bench, "until", "a", ticks=900)
        self.assertEqual(bench.until("b", ticks=900), 0)
        self.assertEqual(bench.go(ticks=897)[-1], B)
        self.assertEqual(bench.until("b"), 898)
        self.assertEqual(bench.until("b", ticks=900), 899)
        self.assertEqual(bench.tick(), 900)
        for ticks in (1, 60, 900):
            self.refuses(BadTicks, bench, "until", "b", ticks=ticks)

    def test_no_name(self):
        bench = at_tick(1)
        for name in [*wrong(), "d", "m", "A", "", b"a", ["a"], ("a",)]:
            self.refuses(BadName, bench, "until", name)

    def test_no_number(self):
        bench = Bench(PLAN)
        bench.knock("a")
        for ticks in [*wrong(1, 100), 0, -1, 901, True, False, "1", [1], (1,), None]:
            self.refuses(BadTicks, bench, "until", "a", ticks=ticks)
        self.assertEqual(bench.until("a", ticks=900), 0)

    def test_no_name_ahead_of_no_number(self):
        bench = Bench(PLAN)
        for ticks in (0, 901, None, True, 1):
            self.refuses(BadName, bench, "until", "d", ticks=ticks)
            self.refuses(BadName, bench, "until", None, ticks=ticks)

    def test_all_stays_where_it_looked_ahead_in_vain(self):
        bench = Bench(PLAN)
        bench.knock("a")
        bench.go(ticks=2)
        bench.knock("b")
        bench.go()
        bench.knock("c")
        bench.knock("c")
        self.assertEqual(bench.nested(), ["a", "b"])
        for _ in range(3):
            self.refuses(BadTicks, bench, "until", "a", ticks=60)
        self.assertEqual(bench.go(ticks=6), [C, B, A, A, M, None])
        self.assertEqual(told_by(bench.so_far()),
                         told_by(run(PLAN, [(0, "a"), (2, "b"), (3, "c"), (3, "c")], ticks=9)))

    MANY = Plan([line("a", [("run", 1), ("later", "m"), ("later", "n"), ("wake", "t"), ("wake", "t"), ("run", 2)],
                      guard=(3, 9, 9)),
                 line("b", [("run", 2)], rank=2, up=True, guard=FREE), line("c", [("run", 1)], rank=3, guard=FREE)],
                bottoms=[("m", [("mask",), ("run", 3), ("open",), ("run", 2)]), ("n", [("run", 1)])],
                threads=[("t", 1, [("mask",), ("run", 2), ("answer", "b"), ("run", 3), ("open",), ("run", 1),
                                   ("wake", "u")]),
                         ("u", 2, [("run", 2), ("answer", "b"), ("run", 1)])])
    MANY_KNOCKS = [(0, "a"), (2, "a"), (2, "a"), (4, "a"), (5, "a"), (13, "b"), (18, "a"), (33, "b")]

    def led(self, tick):
        """A bench of many things at this tick, and the knocks that it was told."""
        bench, told = Bench(self.MANY), [knock for knock in self.MANY_KNOCKS if knock[0] <= tick]
        for at in range(tick + 1):
            for knock in told:
                if knock[0] == at:
                    bench.knock(knock[1])
            if at < tick:
                bench.go()
        return bench, told

    def test_all_stays_of_bottoms_threads_guards_and_masks_too(self):
        for tick in range(50):
            bench, told = self.led(tick)
            self.refuses(BadTicks, bench, "until", "c", ticks=40)
            bench.go(ticks=30)
            self.assertEqual(told_by(bench.so_far()), told_by(run(self.MANY, told, ticks=tick + 30)))

    def test_all_goes_on_where_it_did_not_look_in_vain(self):
        for tick in range(50):
            bench, told = self.led(tick)
            bench.knock("c")
            told.append((tick, "c"))
            self.assertLess(bench.until("c"), tick + 6)
            told.append((bench.tick(), "a"))
            self.assertEqual(told_by(bench.so_far()), told_by(run(self.MANY, told, ticks=bench.tick())))
            bench.knock("a")
            bench.go(ticks=40)
            self.assertEqual(told_by(bench.so_far()), told_by(run(self.MANY, told, ticks=bench.tick())))


class Log(Case):
    def test_a_pair_for_each_beginning_and_end(self):
        bench = Bench(PLAN)
        bench.knock("a")
        bench.go(ticks=3)
        bench.knock("b")
        bench.until("b")
        told = [("knock", "begun"), ("knock", "ended"), ("go", "begun"), ("go", "ended"),
                ("knock", "begun"), ("knock", "ended"), ("until", "begun"), ("until", "ended")]
        self.assertEqual(bench.log(), told)
        self.assertIs(type(bench.log()), list)
        self.assertEqual({type(pair) for pair in bench.log()}, {tuple})

    def test_looks_are_not_logged(self):
        bench = Bench(PLAN)
        looks(bench)
        bench.log()
        self.assertEqual(bench.log(), [])

    def test_refused_deeds_are_logged(self):
        bench = Bench(PLAN)
        for deed in (lambda: bench.knock("d"), lambda: bench.go(ticks=0), lambda: bench.until("a"),
                     lambda: bench.until("d"), lambda: bench.until("a", ticks=0)):
            with self.assertRaises(ValueError):
                deed()
        self.assertEqual([word for word, _ in bench.log()[::2]], ["knock", "go", "until", "until", "until"])
        self.assertEqual([word for word, _ in bench.log()[1::2]], ["knock", "go", "until", "until", "until"])
        self.assertEqual([state for _, state in bench.log()], ["begun", "ended"] * 5)

    def test_it_is_new_each_time(self):
        bench = Bench(PLAN)
        bench.go()
        bench.log().append(("more", "begun"))
        bench.log().clear()
        self.assertEqual(bench.log(), [("go", "begun"), ("go", "ended")])


class Looks(Case):
    def test_nested(self):
        bench = Bench(PLAN)
        for name, nested in (("a", ["a"]), ("b", ["a", "b"]), ("c", ["a", "b", "c"])):
            bench.knock(name)
            bench.go()
            self.assertEqual(bench.nested(), nested)
        self.assertIs(type(bench.nested()), list)
        bench.nested().clear()
        self.assertEqual(bench.nested(), ["a", "b", "c"])
        bench.go()
        self.assertEqual(bench.nested(), ["a"])
        bench.go(ticks=3)
        self.assertEqual(bench.nested(), [])
        self.assertEqual(bench.so_far().who(), [A, B, C, B, A, A, A])

    def test_tick(self):
        bench = Bench(PLAN)
        self.assertIs(type(bench.tick()), int)
        for ticks in (1, 2, 3):
            bench.go(ticks=ticks)
        self.assertEqual(bench.tick(), 6)

    def test_a_run_that_was_told_stays_as_the_bench_goes_on(self):
        bench = Bench(PLAN)
        bench.knock("a")
        bench.knock("b")
        bench.go()
        one = bench.so_far()
        self.assertIs(type(one), Run)
        before = told_by(one)
        self.assertEqual(before, told_by(run(PLAN, [(0, "a"), (0, "b")], ticks=1)))
        bench.knock("a")
        bench.go(ticks=5)
        bench.knock("c")
        bench.until("c")
        self.assertEqual(told_by(one), before)

    def test_changing_a_run_that_was_told_changes_no_bench(self):
        bench = Bench(PLAN)
        bench.go(ticks=2)
        one = bench.so_far()
        one.who().clear()
        one.sums().clear()
        one.waits()["a"] = 9
        self.assertEqual(told_by(bench.so_far()), told_by(run(PLAN, [], ticks=2)))

    def test_knocks_that_have_not_come_are_not_in_the_run_so_far(self):
        bench = at_tick(3)
        bench.knock("a")
        self.assertEqual(told_by(bench.so_far()), told_by(run(PLAN, [], ticks=3)))

    def test_a_bench_of_a_full_plan(self):
        bench = Bench(full_plan())
        bench.knock("lineb")
        self.assertEqual(bench.go(ticks=2), [("top", "lineb"), None])


class Cuts(Case):
    KNOCKS = [(0, "a"), (1, "b"), (1, "c"), (1, "b"), (5, "a"), (6, "a"), (6, "c"), (11, "b"), (12, "c")]

    def led(self, cuts):
        """A bench that goes on by these cuts, each ended where a knock comes."""
        bench, left = Bench(PLAN), list(self.KNOCKS)
        for cut in cuts:
            end = bench.tick() + cut
            while bench.tick() < end:
                while left and left[0][0] == bench.tick():
                    bench.knock(left.pop(0)[1])
                bench.go(ticks=min([end, *[knock[0] for knock in left[:1]]]) - bench.tick())
        return bench

    def test_any_cuts(self):
        for cuts in ([30], [1] * 30, [2] * 15, [7, 1, 9, 13], [29, 1], [1, 29]):
            self.assertEqual(told_by(self.led(cuts).so_far()), told_by(run(PLAN, self.KNOCKS, ticks=30)))


if __name__ == "__main__":
    unittest.main()
