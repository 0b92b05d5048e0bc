"""Courses: all that waits, is begun, was put off or woken in a run, and what is chosen tick by tick."""

from knockwell.doors import Door
from knockwell.works import Work


class Course:
    """A plan's run, as far as it has come."""

    def __init__(self, plan):
        self.plan = plan
        self.doors = {row[0]: Door(row) for row in plan.lines()}
        self.bottom_steps = {name: steps for name, steps in plan.bottoms()}
        # The greatest rank stands first, so that the first that fits is the one to choose.
        self.ranked_threads = sorted(plan.threads(), key=lambda row: -row[1])
        self.coming = []
        self.tops = []
        self.bottom = None
        self.put_off = []
        self.begun_threads = {}
        self.woken = {row[0]: 0 for row in plan.threads()}
        self.ran = []
        self.masks_then = []

    def twin(self):
        """The same once more, so that the one goes on without the other."""
        other = Course(self.plan)
        other.doors = {name: door.twin() for name, door in self.doors.items()}
        other.coming = list(self.coming)
        other.tops = [work.twin() for work in self.tops]
        other.bottom = None if self.bottom is None else self.bottom.twin()
        other.put_off = list(self.put_off)
        other.begun_threads = {name: work.twin() for name, work in self.begun_threads.items()}
        other.woken = dict(self.woken)
        other.ran = list(self.ran)
        other.masks_then = list(self.masks_then)
        return other

    def now(self):
        """The tick that is next."""
        return len(self.ran)

    def expect(self, name):
        """A knock at this line comes when the next tick begins."""
        self.coming.append(name)

    def go_on(self):
        """Runs the next tick, and tells what ran."""
        for name in self.coming:
            self.doors[name].take(self.now())
        self.coming = []
        ran = False
        while not ran:
            ran = self.choose()
        return self.ran[-1]

    def choose(self):
        """Begins a top, or does a step of what goes on; tells whether the tick has run."""
        door = self.next_door()
        if door is not None:
            door.begin(self.now())
            self.tops.append(Work("top", door.name, door.top))
            return False
        work = self.next_work()
        if work is None:
            self.note(None)
            return True
        return self.do_step(work)

    def note(self, who):
        """The tick runs, and this is what ran."""
        self.masks_then.append(self.masks_on())
        self.ran.append(who)

    def masks_on(self):
        """How many masks are on."""
        # What is over takes its masks with it: so many are on then as when it began.
        works = self.tops + list(self.begun_threads.values())
        if self.bottom is not None:
            works.append(self.bottom)
        return sum([work.own_masks for work in works])

    def next_door(self):
        """The line whose top begins now, or None."""
        if self.masks_on() > 0:
            return None
        # No top that is begun has a greater rank than the last: so the last one's rank bars their lines, too.
        last_rank = self.doors[self.tops[-1].name].rank if self.tops else 0
        fit = [door for door in self.doors.values() if door.waiting and door.rank > last_rank]
        return max(fit, key=lambda door: door.rank, default=None)

    def next_work(self):
        """What goes on by a step, or None; a bottom or a thread whose turn it is begins."""
        if self.tops:
            return self.tops[-1]
        if self.bottom is None and self.put_off and self.masks_on() == 0:
            name = self.put_off.pop(0)
            self.bottom = Work("bottom", name, self.bottom_steps[name])
        if self.bottom is not None:
            return self.bottom
        return self.next_thread()

    def next_thread(self):
        """The thread that goes on or begins, or None."""
        for work in self.begun_threads.values():
            if work.own_masks > 0:
                return work
        for name, rank, steps in self.ranked_threads:
            if name in self.begun_threads:
                return self.begun_threads[name]
            if self.woken[name] > 0:
                self.woken[name] -= 1
                self.begun_threads[name] = Work("thread", name, steps)
                return self.begun_threads[name]
        return None

    def do_step(self, work):
        """Does one step, or takes one tick of a run; tells whether the tick has run."""
        step = work.step()
        takes_tick = step[0] == "run"
        if takes_tick:
            self.note((work.kind, work.name))
            work.take_tick()
        else:
            self.do_at_once(work, step)
            work.pass_step()
        if work.is_over():
            self.end(work)
        return takes_tick

    def do_at_once(self, work, step):
        """Does a step that takes no tick."""
        word = step[0]
        if word == "mask":
            work.own_masks += 1
        elif word == "open":
            work.own_masks -= 1
        elif word == "answer":
            self.doors[step[1]].answer()
        elif word == "wake":
            self.woken[step[1]] += 1
        # A bottom that is begun was taken off the row, and so can be put off once more.
        elif step[1] not in self.put_off:
            self.put_off.append(step[1])

    def end(self, work):
        """It is over."""
        if work.kind == "top":
            self.tops.pop()
        elif work.kind == "bottom":
            self.bottom = None
        else:
            del self.begun_threads[work.name]
