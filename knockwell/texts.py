"""Texts: plans written in rows, and read again."""

from knockwell.errors import BadRows
from knockwell.plans import Plan, are_bottoms, are_lines, are_there, are_threads

DIGITS = "0123456789"
MOST_DIGITS = 2


def written_steps(steps):
    """Steps parted by commas, their words by one blank."""
    return ", ".join([" ".join([str(word) for word in step]) for step in steps])


def written_line(row):
    """The row of a line."""
    name, rank, up, guard, top = row
    most, wide, rest = guard
    kind = "up" if up else "latched"
    return f"line {name} {rank} {kind} {most} {wide} {rest}: {written_steps(top)}"


def written(plan):
    """The text of a plan."""
    rows = [written_line(row) for row in plan.lines()]
    rows.extend([f"bottom {name}: {written_steps(steps)}" for name, steps in plan.bottoms()])
    rows.extend([f"thread {name} {rank}: {written_steps(steps)}" for name, rank, steps in plan.threads()])
    return "\n".join(rows)


def read_number(word):
    """The number that is written so, or None."""
    # No place takes a number of more digits, and Python itself refuses to read very many.
    if not 1 <= len(word) <= MOST_DIGITS or word[0] == "0":
        return None
    if not all([sign in DIGITS for sign in word]):
        return None
    return int(word)


def read_step(text):
    """What would be the step that is written so; a plan's rules tell whether it is one."""
    words = text.split(" ")
    if words[0] == "run" and len(words) == 2:
        return ("run", read_number(words[1]))
    return tuple(words)


def read_row(text):
    """A pair of the row's first word and what would be its line, bottom or thread."""
    head, colon, tail = text.partition(": ")
    words = head.split(" ")
    steps = [read_step(part) for part in tail.split(", ")]
    told = None
    if words[0] == "line" and len(words) == 7 and words[3] in ("up", "latched"):
        guard = (read_number(words[4]), read_number(words[5]), read_number(words[6]))
        told = (words[1], read_number(words[2]), words[3] == "up", guard, steps)
    elif words[0] == "bottom" and len(words) == 2:
        told = (words[1], steps)
    elif words[0] == "thread" and len(words) == 3:
        told = (words[1], read_number(words[2]), steps)
    return words[0], told


def read(text):
    """The plan that is written so."""
    if not isinstance(text, str):
        raise BadRows(0)
    texts = text.split("\n")
    lines = []
    bottoms = []
    threads = []
    for at, row in enumerate(texts):
        word, told = read_row(row)
        if word == "line" and not bottoms and not threads:
            lines.append(told)
        elif word == "bottom" and not threads:
            bottoms.append(told)
        elif word == "thread":
            threads.append(told)
        else:
            raise BadRows(at)
        if not are_lines(lines) or not are_bottoms(bottoms) or not are_threads(threads):
            raise BadRows(at)
    if not are_there(lines, bottoms, threads):
        raise BadRows(len(texts))
    return Plan(lines, bottoms=bottoms, threads=threads)
