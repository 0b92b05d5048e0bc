"""A bench: a plan that is run on by hand, with a log of what was done."""

from knockwell.courses import Course
from knockwell.errors import BadName, BadPlan, BadTicks, Full
from knockwell.plans import Plan, is_name_among
from knockwell.runs import LAST_KNOCK_TICK, MOST_KNOCKS, MOST_RUN_TICKS, TICKS, Run
from knockwell.steps import is_number


class Bench:
    """Runs a plan on, from tick 0."""

    def __init__(self, plan):
        if not isinstance(plan, Plan):
            raise BadPlan("no plan")
        self.course = Course(plan)
        self.knocks_told = 0
        self.deeds = []

    def knock(self, name):
        """A knock at a line, which comes when the next tick begins."""
        self.deeds.append(("knock", "begun"))
        try:
            self.check_name(name)
            if self.knocks_told >= MOST_KNOCKS:
                raise Full("400 knocks were told")
            if self.course.now() > LAST_KNOCK_TICK:
                raise Full("no knock comes behind tick 500")
            self.course.expect(name)
            self.knocks_told += 1
        finally:
            self.deeds.append(("knock", "ended"))

    def go(self, *, ticks=1):
        """Goes on by so many ticks, and tells what ran each."""
        self.deeds.append(("go", "begun"))
        try:
            self.check_ticks(ticks)
            if self.course.now() + ticks > MOST_RUN_TICKS:
                raise BadTicks("the bench would be beyond tick 900")
            return [self.course.go_on() for tick in range(ticks)]
        finally:
            self.deeds.append(("go", "ended"))

    def until(self, name, *, ticks=TICKS):
        """Goes on till a line's top begins, that tick being run, too, and tells that tick."""
        self.deeds.append(("until", "begun"))
        try:
            self.check_name(name)
            self.check_ticks(ticks)
            return self.go_till_begun(name, min(self.course.now() + ticks, MOST_RUN_TICKS))
        finally:
            self.deeds.append(("until", "ended"))

    def go_till_begun(self, name, end):
        """Goes on till a line's top begins at a tick ahead of this end, and tells that tick."""
        # Only a twin looks ahead: if that is in vain, the bench itself stays where it is.
        ahead = self.course.twin()
        before = ahead.doors[name].tops_begun
        while ahead.now() < end:
            tick = ahead.now()
            ahead.go_on()
            if ahead.doors[name].tops_begun > before:
                self.course = ahead
                return tick
        raise BadTicks("the line's top doesn't begin ahead of that tick")

    def check_name(self, name):
        """Refuses what is no line's name."""
        if not is_name_among(name, list(self.course.doors)):
            raise BadName("no line's name")

    def check_ticks(self, ticks):
        """Refuses what is no number of ticks to go on by."""
        if not is_number(ticks, 1, MOST_RUN_TICKS):
            raise BadTicks("no number of ticks from 1 to 900")

    def tick(self):
        """The tick that is next."""
        return self.course.now()

    def log(self):
        """Pairs of a deed's word and whether it was begun or ended."""
        return list(self.deeds)

    def nested(self):
        """The names of lines whose tops are begun and not over, the first one first."""
        return [work.name for work in self.course.tops]

    def so_far(self):
        """The run so far."""
        return Run(self.course)
