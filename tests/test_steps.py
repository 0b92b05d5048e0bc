"""Steps, as a top's, a bottom's and a thread's: what a plan takes and what it refuses."""

import unittest

from knockwell.errors import BadPlan
from samples import PLACES, full_plan, wrong

RUN = ("run", 1)
MASK = ("mask",)
OPEN = ("open",)


class Steps(unittest.TestCase):
    def takes(self, steps):
        for place in PLACES:
            with self.subTest(place=place.__name__):
                self.assertIn(steps, [row[-1] for row in told_rows(place(steps))])

    def refuses(self, steps):
        for place in PLACES:
            with self.subTest(place=place.__name__):
                with self.assertRaises(BadPlan) as caught:
                    place(steps)
                self.assertIs(type(caught.exception), BadPlan)

    def test_every_sort_of_step(self):
        self.takes([RUN, MASK, ("answer", "linea"), ("later", "lowa"), ("wake", "thra"), OPEN])

    def test_steps_alone_beside_one_run(self):
        for step in (RUN, MASK, ("answer", "lineb"), ("later", "lowb"), ("wake", "thrb")):
            self.takes([step, RUN])
            self.takes([RUN, step])

    def test_how_many_steps(self):
        self.takes([RUN])
        self.takes([RUN] * 12)
        self.refuses([])
        self.refuses([RUN] * 13)
        self.refuses([RUN] * 100)

    def test_one_run_at_least(self):
        self.takes([MASK, OPEN, RUN])
        self.refuses([MASK, OPEN])
        self.refuses([MASK])
        self.refuses([("answer", "linea")])
        self.refuses([("later", "lowa"), ("wake", "thra")])

    def test_how_long_a_run_is(self):
        for many in range(1, 10):
            self.takes([("run", many)])
        self.refuses([("run", 0)])
        self.refuses([("run", 10)])
        self.refuses([("run", -1)])
        self.refuses([RUN, ("run", 0)])
        self.refuses([("run", 10), RUN])

    def test_open_takes_off_only_masks_of_these_steps(self):
        self.takes([MASK, RUN, OPEN])
        self.takes([MASK, OPEN, MASK, RUN, OPEN])
        self.takes([MASK, MASK, RUN, OPEN, OPEN])
        self.refuses([OPEN, RUN])
        self.refuses([RUN, OPEN])
        self.refuses([OPEN, RUN, MASK])
        self.refuses([MASK, OPEN, RUN, OPEN])
        self.refuses([MASK, OPEN, OPEN, MASK, RUN])
        self.refuses([MASK, MASK, RUN, OPEN, OPEN, OPEN])

    def test_masks_may_be_left_on(self):
        self.takes([MASK, RUN])
        self.takes([RUN, MASK])
        self.takes([MASK] * 11 + [RUN])

    def test_steps_of_other_kinds(self):
        for steps in wrong([RUN]):
            self.refuses(steps)
        self.refuses((RUN,))
        self.refuses((RUN, RUN))
        self.refuses({RUN: 1})
        self.refuses({0: RUN})

    def test_a_step_of_other_kinds(self):
        for step in wrong():
            self.refuses([step, RUN])
            self.refuses([RUN, step])

    def test_a_list_is_no_step(self):
        for step in (["run", 1], ["mask"], ["answer", "linea"], ["later", "lowa"], ["wake", "thra"]):
            self.refuses([RUN, step])

    def test_words_of_other_kinds(self):
        for word in wrong("run"):
            self.refuses([RUN, (word, 1)])
            self.refuses([RUN, (word, "linea")])
            self.refuses([RUN, (word,)])
        for word in ("Run", "run ", "ru", "runs", "MASK", "opens", "answers", "wakes", "sleep"):
            self.refuses([RUN, (word, 1)])
            self.refuses([RUN, (word, "linea")])
            self.refuses([RUN, (word,)])

    def test_what_stands_behind_words_of_other_kinds(self):
        for told in wrong(1):
            self.refuses([RUN, ("run", told)])
        for told in wrong():
            self.refuses([RUN, ("answer", told)])
            self.refuses([RUN, ("later", told)])
            self.refuses([RUN, ("wake", told)])

    def test_steps_too_short_and_too_long(self):
        for word in ("run", "answer", "later", "wake"):
            self.refuses([RUN, (word,)])
        self.refuses([RUN, ("run", 1, 1)])
        self.refuses([RUN, ("answer", "linea", "linea")])
        self.refuses([RUN, ("later", "lowa", 1)])
        self.refuses([RUN, ("wake", "thra", None)])
        for step in (MASK, OPEN):
            for told in (1, "linea", None, ()):
                self.refuses([MASK, RUN, (*step, told)])
        self.refuses([RUN, ()])

    def test_what_steps_speak_of_is_there(self):
        for there in ("linea", "lineb"):
            self.takes([RUN, ("answer", there)])
        for there in ("lowa", "lowb"):
            self.takes([RUN, ("later", there)])
        for there in ("thra", "thrb"):
            self.takes([RUN, ("wake", there)])
        for absent in ("lowa", "thra", "other", "line", "lineaa", "", "LINEA"):
            self.refuses([RUN, ("answer", absent)])
        for absent in ("linea", "thra", "other", "low", "lowaa", "", "LOWA"):
            self.refuses([RUN, ("later", absent)])
        for absent in ("linea", "lowa", "other", "thr", "thraa", "", "THRA"):
            self.refuses([RUN, ("wake", absent)])

    def test_of_several_steps_each_is_asked(self):
        self.refuses([("answer", "linea"), RUN, ("answer", "other")])
        self.refuses([("later", "other"), RUN, ("later", "lowa")])
        self.refuses([("wake", "thra"), ("wake", "other"), RUN])


def told_rows(plan):
    return [*plan.lines(), *plan.bottoms(), *plan.threads()]


class Told(unittest.TestCase):
    def test_steps_are_told_as_tuples_in_their_order(self):
        steps = [("wake", "thra"), ("mask",), ("run", 9), ("open",), ("later", "lowa"), ("answer", "linea")]
        plan = full_plan(top=list(steps), bottom=list(steps), thread=list(steps))
        for row in (plan.lines()[1], plan.bottoms()[1], plan.threads()[1]):
            self.assertEqual(row[-1], steps)
            self.assertIs(type(row[-1]), list)
            self.assertEqual({type(step) for step in row[-1]}, {tuple})


if __name__ == "__main__":
    unittest.main()
