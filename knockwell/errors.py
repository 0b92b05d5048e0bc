"""What is refused, one class for each kind of refusal."""


class KnockError(ValueError):
    """Whatever this package refuses."""


class BadPlan(KnockError):
    """No plan, or what no plan can be made of."""


class BadKnocks(KnockError):
    """No knocks; `at` is the count of the first that is none with those ahead, 0 for what is no list."""

    def __init__(self, at=0):
        super().__init__(f"no knocks, from the one at {at} on")
        self.at = at


class BadTicks(KnockError):
    """No number of ticks that can be run."""


class BadName(KnockError):
    """No name of a line."""


class BadRows(KnockError):
    """No text of a plan; `row` is the first row that is wrong with those ahead, 0 for what is no text."""

    def __init__(self, row=0):
        super().__init__(f"no text of a plan, from row {row} on")
        self.row = row


class Full(KnockError):
    """No room for one more knock."""
