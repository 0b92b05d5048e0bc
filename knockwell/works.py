"""Works: steps that were begun, and how far they are."""


class Work:
    """A top, a bottom or a thread that is begun and not over."""

    def __init__(self, kind, name, steps):
        self.kind = kind
        self.name = name
        self.steps = steps
        self.at = 0
        self.ticks_taken = 0
        self.own_masks = 0

    def twin(self):
        """The same once more, so that the one goes on without the other."""
        other = Work(self.kind, self.name, self.steps)
        other.at = self.at
        other.ticks_taken = self.ticks_taken
        other.own_masks = self.own_masks
        return other

    def step(self):
        """The step that is next, or of which some ticks are left."""
        return self.steps[self.at]

    def take_tick(self):
        """Takes one tick of the run that is its step."""
        self.ticks_taken += 1
        if self.ticks_taken == self.step()[1]:
            self.pass_step()

    def pass_step(self):
        """Has done its step."""
        self.at += 1
        self.ticks_taken = 0

    def is_over(self):
        """Whether it has done its last step."""
        return self.at == len(self.steps)
