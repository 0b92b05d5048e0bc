"""Runs: a plan and knocks, tick by tick, and what is told of them."""

from knockwell.courses import Course
from knockwell.errors import BadKnocks, BadTicks
from knockwell.plans import is_name_among
from knockwell.steps import is_number

TICKS = 60
MOST_RUN_TICKS = 900
MOST_KNOCKS = 400
LAST_KNOCK_TICK = 500


def is_knock(value, names, least):
    """Whether this is a pair of a tick, this one or a later one, and one of these names."""
    if not isinstance(value, tuple) or len(value) != 2:
        return False
    return is_number(value[0], least, LAST_KNOCK_TICK) and is_name_among(value[1], names)


def check_knocks(plan, knocks):
    """Refuses what are no knocks for this plan."""
    if not isinstance(knocks, list):
        raise BadKnocks(0)
    names = [row[0] for row in plan.lines()]
    last = 0
    for at, knock in enumerate(knocks):
        if at == MOST_KNOCKS or not is_knock(knock, names, last):
            raise BadKnocks(at)
        last = knock[0]


def run(plan, knocks, *, ticks=TICKS):
    """The run of a plan with these knocks, so many ticks long."""
    check_knocks(plan, knocks)
    if not is_number(ticks, 0, MOST_RUN_TICKS):
        raise BadTicks("no number of ticks from 0 to 900")
    names_at = {}
    for tick, name in knocks:
        names_at.setdefault(tick, []).append(name)
    course = Course(plan)
    for tick in range(ticks):
        for name in names_at.get(tick, []):
            course.expect(name)
        course.go_on()
    return Run(course)


class Run:
    """What is told of a run; it stays as it is when the course goes on."""

    def __init__(self, course):
        self.ran = list(course.ran)
        self.masks_then = list(course.masks_then)
        self.counts_of = {name: door.counts() for name, door in course.doors.items()}
        self.longest_of = {name: door.longest for name, door in course.doors.items()}

    def who(self):
        """What ran each tick: a pair of a kind and a name, or None."""
        return list(self.ran)

    def spans(self):
        """Triples of a tick, the tick behind the last one, and what ran from one to the other."""
        told = []
        for tick, who in enumerate(self.ran):
            if told and told[-1][2] == who:
                told[-1] = (told[-1][0], tick + 1, who)
            else:
                told.append((tick, tick + 1, who))
        return told

    def masks(self):
        """How many masks were on in each tick."""
        return list(self.masks_then)

    def sums(self):
        """For each line: knocks that waited, merged, shut out; tops begun; whether it waits."""
        return dict(self.counts_of)

    def waits(self):
        """For each line the longest wait."""
        return dict(self.longest_of)
