"""Plans as texts: what is written, what is read, and which row is told to be wrong."""

import inspect
import unittest

from knockwell.errors import BadRows
from knockwell.plans import Plan, line
from knockwell.texts import read, written
from samples import Never, Yes, lines_of, looped_list, wrong

PLAN = Plan(
    [line("disk", [("mask",), ("run", 2), ("open",), ("later", "flush")], rank=5),
     line("net", [("answer", "net"), ("run", 1), ("wake", "serve")], rank=99, up=True, guard=(4, 20, 30))],
    bottoms=[("flush", [("run", 3), ("wake", "idle")])],
    threads=[("serve", 10, [("run", 9)]), ("idle", 1, [("mask",), ("mask",), ("run", 1)])],
)
ROWS = [
    "line disk 5 latched 3 10 20: mask, run 2, open, later flush",
    "line net 99 up 4 20 30: answer net, run 1, wake serve",
    "bottom flush: run 3, wake idle",
    "thread serve 10: run 9",
    "thread idle 1: mask, mask, run 1",
]
TEXT = "\n".join(ROWS)
LINE = "line a 1 latched 3 10 20: run 1"


class Case(unittest.TestCase):
    def refuses(self, row, text):
        with self.assertRaises(BadRows) as caught:
            read(text)
        self.assertIs(type(caught.exception), BadRows)
        self.assertEqual(caught.exception.row, row, repr(text))
        self.assertIs(type(caught.exception.row), int)

    def refuses_row(self, at, row):
        """This row in place of the one there."""
        self.refuses(at, "\n".join([*ROWS[:at], row, *ROWS[at + 1:]]))


class Written(Case):
    def test_each_sort_of_row_and_step(self):
        self.assertEqual(written(PLAN), TEXT)

    def test_one_line(self):
        self.assertEqual(written(Plan([line("a", [("run", 1)])])), LINE)

    def test_no_line_end_at_the_end(self):
        self.assertFalse(written(PLAN).endswith("\n"))
        self.assertEqual(written(PLAN).count("\n"), 4)

    def test_the_greatest_numbers(self):
        plan = Plan([line("a", [("run", 9)], rank=99, guard=(9, 60, 60))], threads=[("a", 99, [("run", 1)])])
        self.assertEqual(written(plan), "line a 99 latched 9 60 60: run 9\nthread a 99: run 1")

    def test_the_plans_turn(self):
        plan = Plan([line("b", [("run", 1)], rank=9), line("a", [("run", 1)], rank=1), line("c", [("run", 1)], rank=5)])
        self.assertEqual([row[:6] for row in written(plan).split("\n")], ["line b", "line a", "line c"])


class Read(Case):
    def test_each_sort_of_row_and_step(self):
        self.assertTrue(read(TEXT) == PLAN)
        self.assertIs(type(read(TEXT)), Plan)

    def test_one_line(self):
        self.assertEqual(read(LINE).lines(), [("a", 1, False, (3, 10, 20), [("run", 1)])])
        self.assertEqual(read(LINE.replace("latched", "up")).lines(), [("a", 1, True, (3, 10, 20), [("run", 1)])])

    def test_with_bottoms_or_threads_alone(self):
        self.assertEqual(read(LINE + "\nbottom b: run 2").bottoms(), [("b", [("run", 2)])])
        self.assertEqual(read(LINE + "\nthread b 7: run 2").threads(), [("b", 7, [("run", 2)])])

    def test_what_is_read_is_written_again(self):
        for text in (TEXT, LINE, "\n".join(ROWS[:1] + ROWS[2:3] + ROWS[4:])):
            self.assertEqual(written(read(text)), text)

    def test_words_as_names(self):
        text = "\n".join(["line line 1 up 1 1 1: run 1, answer line, later bottom, wake thread", "bottom bottom: run 1",
                          "thread thread 1: run 1"])
        self.assertEqual(written(read(text)), text)
        text = "\n".join(["line up 1 latched 1 1 1: run 1, later run, wake mask", "bottom run: run 1",
                          "thread mask 1: open, run 1".replace("open", "mask")])
        self.assertEqual(written(read(text)), text)

    def test_as_many_as_there_can_be(self):
        plan = Plan(lines_of(5), bottoms=[(name, [("run", 1)] * 12) for name in "abcd"],
                    threads=[(name, rank, [("run", 1)]) for rank, name in enumerate("abcd", 1)])
        self.assertTrue(read(written(plan)) == plan)

    def test_steps_may_speak_of_what_stands_in_later_rows(self):
        rows = ["line a 1 up 1 1 1: run 1, answer b", "line b 2 up 1 1 1: run 1, later c", "bottom c: run 1, wake d",
                "thread d 1: run 1, answer a"]
        self.assertEqual(written(read("\n".join(rows))), "\n".join(rows))

    def test_a_plan_that_is_read_is_new_each_time(self):
        plan = read(LINE)
        plan.lines()[0][4].append(("run", 2))
        self.assertTrue(plan == read(LINE))

    def test_arguments(self):
        self.assertEqual(str(inspect.signature(read)), "(text)")
        self.assertEqual(str(inspect.signature(written)), "(plan)")


class WrongRows(Case):
    LINES = [
        "", " ", ":", ": ", "line", "line a", "line:", "line: run 1",
        "line disk 5 latched 3 10 20", "line disk 5 latched 3 10 20:", "line disk 5 latched 3 10 20: ",
        "line disk 5 latched 3 10 20:run 1", "line disk 5 latched 3 10 20 run 1", "line disk 5 latched 3 10 20 : run 1",
        "line disk 5 latched 3 10 20:  run 1", "line disk 5 latched 3 10 20: run 1 ", " line disk 5 latched 3 10 20: run 1",
        "line  disk 5 latched 3 10 20: run 1", "line disk  5 latched 3 10 20: run 1", "line disk 5  latched 3 10 20: run 1",
        "line disk 5 latched  3 10 20: run 1", "line disk 5 latched 3  10 20: run 1", "line disk 5 latched 3 10  20: run 1",
        "line disk 5 latched 3 10 20: run  1", "line disk 5 latched 3 10 20: run1", "linedisk 5 latched 3 10 20: run 1",
        "line disk5 latched 3 10 20: run 1", "line disk 5 latched3 10 20: run 1", "line disk 5 latched 310 20: run 1",
        "line\tdisk 5 latched 3 10 20: run 1", "line disk 5 latched 3 10 20: run\t1", "line disk 5 latched 3 10 20: run 1\t",
        "line disk 5 latched 3 10 20: run 1\r", "line disk 5 latched 3 10 20: run 1\v", "line disk 5 latched 3 10 20:\u00a0run 1",
        "line disk 5 latched 3 10 20: run 1,run 1", "line disk 5 latched 3 10 20: run 1 , run 1",
        "line disk 5 latched 3 10 20: run 1,  run 1", "line disk 5 latched 3 10 20: run 1, ",
        "line disk 5 latched 3 10 20: run 1,", "line disk 5 latched 3 10 20: , run 1",
        "line disk 5 latched 3 10 20: run 1, , run 1", "line disk 5 latched 3 10 20: run 1; run 1",
        "line disk 5 latched 3 10 20: run 1: run 1", "line disk 5 latched 3 10 20: run 1.",
        "line disk 05 latched 3 10 20: run 1", "line disk 5 latched 03 10 20: run 1", "line disk 5 latched 3 010 20: run 1",
        "line disk 5 latched 3 10 020: run 1", "line disk 5 latched 3 10 20: run 01", "line disk +5 latched 3 10 20: run 1",
        "line disk 5 latched +3 10 20: run 1", "line disk 5 latched 3 10 20: run +1", "line disk 5 latched 3 10 20: run -1",
        "line disk -5 latched 3 10 20: run 1", "line disk 5 latched 3 1_0 20: run 1", "line disk 5 latched 3 10 20: run 1.0",
        "line disk 0 latched 3 10 20: run 1", "line disk 100 latched 3 10 20: run 1", "line disk 5 latched 0 10 20: run 1",
        "line disk 5 latched 10 10 20: run 1", "line disk 5 latched 3 0 20: run 1", "line disk 5 latched 3 61 20: run 1",
        "line disk 5 latched 3 10 0: run 1", "line disk 5 latched 3 10 61: run 1", "line disk 5 latched 3 10 20: run 0",
        "line disk 5 latched 3 10 20: run 10", "line disk 5 latched 3 10 20: run", "line disk 5 latched 3 10 20: run 1 1",
        "line disk 5 latched 3 10 20: run a", "line disk \u0665 latched 3 10 20: run 1",
        "line disk 5 latched 3 10 20: run \u00b9", "line disk 5 latched 3 10 20: run \uff11",
        "line disk " + "1" * 5000 + " latched 3 10 20: run 1", "line disk 5 latched 3 10 20: run " + "9" * 5000,
        "line disk 5 Latched 3 10 20: run 1", "line disk 5 down 3 10 20: run 1", "line disk 5 True 3 10 20: run 1",
        "line disk 5 3 10 20: run 1", "line disk 5 latched 3 10: run 1", "line disk 5 latched 3 10 20 30: run 1",
        "line disk latched 5 3 10 20: run 1", "line 5 disk latched 3 10 20: run 1", "Line disk 5 latched 3 10 20: run 1",
        "lines disk 5 latched 3 10 20: run 1", "disk 5 latched 3 10 20: run 1", "line Disk 5 latched 3 10 20: run 1",
        "line disks 5 latched 3 10 20: runs 1", "line abcdefghi 5 latched 3 10 20: run 1", "line d1 5 latched 3 10 20: run 1",
        "line  5 latched 3 10 20: run 1", "line d\u00e4 5 latched 3 10 20: run 1", "line disk 5 latched 3 10 20: mask",
        "line disk 5 latched 3 10 20: open, run 1", "line disk 5 latched 3 10 20: mask, run 1, open, open",
        "line disk 5 latched 3 10 20: run 1, mask 1", "line disk 5 latched 3 10 20: run 1, Mask",
        "line disk 5 latched 3 10 20: run 1, answer", "line disk 5 latched 3 10 20: run 1, answer Disk",
        "line disk 5 latched 3 10 20: run 1, answer disk disk", "line disk 5 latched 3 10 20: run 1, later ",
        "line disk 5 latched 3 10 20: run 1, wake 1", "line disk 5 latched 3 10 20: run 1, sleep serve",
        "line disk 5 latched 3 10 20: " + ", ".join(["run 1"] * 13), "thread disk 5: run 1", "bottom disk: run 1",
        "('disk', 5, False, (3, 10, 20), [('run', 1)])", "# line", "\ud800", "\0",
    ]
    BOTTOMS = [
        "", "bottom", "bottom flush", "bottom flush:", "bottom flush: ", "bottom: run 1", "bottom flush 1: run 1",
        "bottom  flush: run 1", "bottom flush : run 1", "bottom flush:  run 1", "bottom flush: run 1 ", " bottom flush: run 1",
        "Bottom flush: run 1", "bottoms flush: run 1", "bottom Flush: run 1", "bottom flush: mask", "bottom flush: open, run 1",
        "bottom flush: run 0", "bottom flush: run 10", "bottom flush: run 01", "flush: run 1", "bottom abcdefghi: run 1",
        "bottom flush: " + ", ".join(["run 1"] * 13), "bottom flush up 3 10 20: run 1",
    ]
    THREADS = [
        "", "thread", "thread idle 1", "thread idle 1:", "thread idle 1: ", "thread idle: run 1", "thread 1 idle: run 1",
        "thread idle 0: run 1", "thread idle 100: run 1", "thread idle 01: run 1", "thread idle +1: run 1",
        "thread  idle 1: run 1", "thread idle  1: run 1", "thread idle 1 : run 1", "thread idle 1:  run 1",
        "thread idle 1: run 1 ", " thread idle 1: run 1", "Thread idle 1: run 1", "threads idle 1: run 1",
        "thread Idle 1: run 1", "thread idle 1: mask", "thread idle 1: open, run 1", "thread idle 1: run 0",
        "thread idle 1 2: run 1", "thread idle 1: run 10", "thread abcdefghi 1: run 1", "thread idle one: run 1",
        "thread idle " + "1" * 5000 + ": run 1", "bottom idle: run 1", "line idle 1 up 1 1 1: run 1",
    ]

    def test_the_first_row(self):
        for row in self.LINES:
            self.refuses(0, row)
            self.refuses_row(0, row)

    def test_a_middle_row(self):
        for row in self.LINES[:-6]:
            self.refuses(1, "\n".join([LINE, row, "bottom b: run 1"]))
        for row in self.BOTTOMS:
            self.refuses_row(2, row)

    def test_the_last_row(self):
        for row in self.THREADS:
            self.refuses_row(4, row)
        for row in self.BOTTOMS:
            self.refuses(1, LINE + "\n" + row)

    def test_of_two_the_first(self):
        for at in range(4):
            rows = list(ROWS)
            rows[at] = rows[at] + " "
            rows[at + 1] = ""
            self.refuses(at, "\n".join(rows))
        self.refuses(1, "\n".join([LINE, "bottom b: run 0", "thread c 0: run 1"]))

    def test_rows_in_another_turn(self):
        self.refuses(3, "\n".join([*ROWS[:3], LINE]))
        self.refuses(4, "\n".join([*ROWS[:2], *ROWS[3:], ROWS[2]]))
        self.refuses(3, "\n".join([ROWS[0], ROWS[3], ROWS[4], ROWS[1]]))
        self.refuses(2, "\n".join([ROWS[0], ROWS[3], ROWS[2]]))

    def test_no_line_ahead(self):
        for rows in (ROWS[2:], ROWS[3:], [ROWS[2]], [ROWS[3]], [ROWS[2], ROWS[0]], [ROWS[3], ROWS[0]]):
            self.refuses(0, "\n".join(rows))

    def test_one_row_too_many(self):
        lines = [f"line {name} {rank} latched 1 1 1: run 1" for rank, name in enumerate("abcdef", 1)]
        bottoms = [f"bottom {name}: run 1" for name in "abcde"]
        threads = [f"thread {name} {rank}: run 1" for rank, name in enumerate("abcde", 1)]
        self.refuses(5, "\n".join(lines))
        self.refuses(5, "\n".join([*lines, *bottoms]))
        self.refuses(9, "\n".join([*lines[:5], *bottoms]))
        self.refuses(5, "\n".join([LINE, *bottoms, *threads]))
        self.refuses(13, "\n".join([*lines[:5], *bottoms[:4], *threads]))
        self.assertEqual(len(read("\n".join([*lines[:5], *bottoms[:4], *threads[:4]])).lines()), 5)

    def test_alike_names_and_ranks(self):
        self.refuses(1, "\n".join([LINE, "line a 2 latched 3 10 20: run 1", "bottom b: run 1"]))
        self.refuses(1, "\n".join([LINE, "line b 1 latched 3 10 20: run 1"]))
        self.refuses(2, "\n".join([LINE, "bottom b: run 1", "bottom b: run 2", "thread c 1: run 1"]))
        self.refuses(2, "\n".join([LINE, "thread b 1: run 1", "thread b 2: run 1"]))
        self.refuses(3, "\n".join([LINE, "thread b 1: run 1", "thread c 2: run 1", "thread d 1: run 1"]))

    def test_empty_rows_and_line_ends_at_the_end(self):
        self.refuses(0, "")
        self.refuses(0, "\n")
        self.refuses(0, "\n" + TEXT)
        self.refuses(5, TEXT + "\n")
        self.refuses(5, TEXT + "\n\n")
        self.refuses(1, LINE + "\n")
        self.refuses(1, LINE + "\n\n" + "bottom b: run 1")
        self.refuses(0, TEXT.replace("\n", "\r\n"))
        self.refuses(0, TEXT.replace("\n", "\r"))
        self.refuses(0, TEXT.replace("\n", "\u2028"))

    def test_what_steps_speak_of(self):
        self.refuses(1, "line a 1 latched 3 10 20: run 1, answer b")
        self.refuses(1, "line a 1 latched 3 10 20: run 1, later a")
        self.refuses(1, "line a 1 latched 3 10 20: run 1, wake a")
        self.refuses(4, "\n".join(ROWS[:4]))
        self.refuses(4, "\n".join([*ROWS[:2], *ROWS[3:]]))
        self.refuses(2, "\n".join([LINE, "bottom b: run 1, later c"]))
        self.refuses(3, "\n".join([LINE, "bottom b: run 1", "thread c 1: run 1, wake b"]))

    def test_a_wrong_row_ahead_of_what_steps_speak_of(self):
        self.refuses(1, "line a 1 latched 3 10 20: run 1, answer b\nbottom b: run 10")
        self.refuses(1, "line a 1 latched 3 10 20: run 1, answer b\n")

    def test_what_is_no_text(self):
        for text in [*[one for one in wrong() if not isinstance(one, str)], LINE.encode(), [LINE], (LINE,), {LINE: 1},
                     read(LINE), bytearray(LINE.encode()), Yes(), Never(), looped_list()]:
            self.refuses_kind(text)

    def refuses_kind(self, text):
        with self.assertRaises(BadRows) as caught:
            read(text)
        self.assertEqual(caught.exception.row, 0)

    def test_texts_of_other_kinds(self):
        for text in ("run 1", "abc", "RUN", "None", "[]", "\0", "\ud800", " " * 1000, "\n" * 1000):
            self.refuses(0, text)


if __name__ == "__main__":
    unittest.main()
