"""Bounds: the longest masked stretches, and how long a line waits at the most."""

from knockwell.errors import BadName
from knockwell.plans import is_name_among

GREATEST_BOUND = 2000


def longest_masked(steps):
    """The most ticks that these steps run in one masked stretch; 0 if they have none."""
    longest = 0
    ticks = 0
    masks = 0
    for step in steps:
        if step[0] == "mask":
            if masks == 0:
                ticks = 0
            masks += 1
        elif step[0] == "open":
            masks -= 1
        elif step[0] == "run" and masks > 0:
            ticks += step[1]
            longest = max(longest, ticks)
    return longest


def masked(plan):
    """Triples of a kind, a name and its longest masked stretch, in the plan's turn."""
    told = []
    for kind, rows in (("top", plan.lines()), ("bottom", plan.bottoms()), ("thread", plan.threads())):
        told.extend([(kind, row[0], longest_masked(row[-1])) for row in rows])
    return told


def ticks_of(steps):
    """How many ticks these steps run."""
    return sum([step[1] for step in steps if step[0] == "run"])


def stays_up(row):
    """Whether this line is up till answered and its own top doesn't answer it."""
    name, rank, up, guard, top = row
    return up and ("answer", name) not in top


def ticks_within(row, many):
    """The ticks that the tops of this line take, at the most, of so many that a lesser one waits."""
    name, rank, up, guard, top = row
    most, wide, rest = guard
    begun_wides = (many + wide - 1) // wide
    # Two more: one may be begun already, and one may wait already.
    return ticks_of(top) * (most * begun_wides + 2)


def bound(plan, name):
    """The most ticks that a line waits, whatever knocks come, or None."""
    lines = plan.lines()
    if not is_name_among(name, [row[0] for row in lines]):
        raise BadName("no line's name")
    own = [row for row in lines if row[0] == name][0]
    greater = [row for row in lines if row[1] > own[1]]
    if any([stays_up(row) for row in greater]):
        return None
    others = [row for row in lines if row[1] < own[1]] + plan.bottoms() + plan.threads()
    stretch = max([longest_masked(row[-1]) for row in others], default=0)
    alone = max(0, stretch - 1) + ticks_of(own[4]) - 1
    for many in range(1, GREATEST_BOUND + 1):
        if many > alone + sum([ticks_within(row, many) for row in greater]):
            return many
    return None
