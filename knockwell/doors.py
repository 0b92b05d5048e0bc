"""Doors: a line as a run goes on, its guard, whether it waits, and what became of its knocks."""


class Door:
    """A line in a run."""

    def __init__(self, row):
        name, rank, up, guard, top = row
        self.name = name
        self.rank = rank
        self.up = up
        self.guard = guard
        self.top = top
        self.let_by = []
        self.shut_till = 0
        self.waiting = False
        self.since = 0
        self.unbegun = False
        self.waited = 0
        self.merged = 0
        self.shut_out = 0
        self.tops_begun = 0
        self.longest = 0

    def twin(self):
        """The same once more, so that the one goes on without the other."""
        other = Door((self.name, self.rank, self.up, self.guard, self.top))
        other.let_by = list(self.let_by)
        other.shut_till = self.shut_till
        other.waiting = self.waiting
        other.since = self.since
        other.unbegun = self.unbegun
        other.waited = self.waited
        other.merged = self.merged
        other.shut_out = self.shut_out
        other.tops_begun = self.tops_begun
        other.longest = self.longest
        return other

    def lets_by(self, tick):
        """Whether a knock at this tick is let by; the one that is too many shuts the line."""
        most, wide, rest = self.guard
        if tick < self.shut_till:
            return False
        self.let_by = [one for one in self.let_by if one > tick - wide]
        if len(self.let_by) < most:
            return True
        self.shut_till = tick + rest
        return False

    def take(self, tick):
        """A knock comes at this tick."""
        if not self.lets_by(tick):
            self.shut_out += 1
            return
        self.let_by.append(tick)
        if self.waiting:
            self.merged += 1
            return
        self.waited += 1
        self.waiting = True
        self.since = tick
        self.unbegun = True

    def begin(self, tick):
        """Its top begins at this tick."""
        self.tops_begun += 1
        # A line that is up goes on waiting, and may begin again: only the first time ends the wait that is told.
        if self.unbegun:
            self.longest = max(self.longest, tick - self.since)
            self.unbegun = False
        if not self.up:
            self.waiting = False

    def answer(self):
        """It is answered, which is nothing to a latched line."""
        if self.up:
            self.waiting = False

    def counts(self):
        """How many knocks waited, were merged, were shut out, how often its top began, whether it waits."""
        return (self.waited, self.merged, self.shut_out, self.tops_begun, 1 if self.waiting else 0)
