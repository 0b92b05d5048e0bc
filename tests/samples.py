"""Right pieces of plans, and wrong ones, for all tests."""

from knockwell.plans import GUARD, Plan

RUN = [("run", 1)]


class Yes:
    """What claims to be equal to everything."""

    def __eq__(self, other):
        return True

    def __hash__(self):
        return 1


class Never:
    """What can't be compared, counted or shown."""

    def __eq__(self, other):
        raise RuntimeError("compared")

    def __hash__(self):
        raise RuntimeError("hashed")

    def __len__(self):
        raise RuntimeError("counted")

    def __iter__(self):
        raise RuntimeError("iterated")

    def __repr__(self):
        raise RuntimeError("shown")


# Something of every kind but numbers with a point; each test leaves out what is right at its place.
KINDS = [
    None, True, False, 0, 1, -1, 100, 10 ** 5000, -10 ** 5000, "", "run", "abc", "RUN", b"", b"abc",
    [], [1], ["abc"], [[]], [None], (), (1,), ("abc",), ((),), (None,), (("run", 1),), [("run", 1)],
    {}, {"abc": 1}, {0: ("run", 1)}, set(), {"abc"}, frozenset(), range(3), object(), int, len, Plan,
    ValueError(), 3j, bytearray(b"abc"), iter([]), Yes(), Never(), (Yes(), 1), (Never(), 1),
]


def looped_list():
    """A list that stands within itself."""
    loop = []
    loop.append(loop)
    return loop


def looped_tuple():
    """A tuple that stands within itself."""
    inner = []
    loop = (inner, inner)
    inner.append(loop)
    return loop


def deep_list():
    """A list nested deeper than calls can be."""
    deep = []
    for _ in range(50000):
        deep = [deep]
    return deep


def wrong(*right):
    """Values of all kinds but those that are the same as a right one, and of its kind."""
    told = []
    for value in [*KINDS, looped_list(), looped_tuple(), deep_list()]:
        if not any(type(value) is type(one) and value == one for one in right):
            told.append(value)
    return told


def a_line(name="abc", rank=1, up=False, guard=GUARD, top=RUN):
    """A tuple of a line, without the program's own help."""
    return (name, rank, up, guard, top)


def lines_of(many):
    """So many lines, all right together."""
    return [a_line(name="line" + "abcdefgh"[at], rank=at + 1) for at in range(many)]


def bottoms_of(many):
    """So many bottoms, all right together."""
    return [("low" + "abcdefgh"[at], [("run", 1)]) for at in range(many)]


def threads_of(many):
    """So many threads, all right together."""
    return [("thr" + "abcdefgh"[at], at + 1, [("run", 1)]) for at in range(many)]


def plan_with_top(steps):
    """A plan in which these steps are a top; lines, bottoms and threads a to d are there."""
    return full_plan(top=steps)


def plan_with_bottom(steps):
    """The same with these steps as a bottom's."""
    return full_plan(bottom=steps)


def plan_with_thread(steps):
    """The same with these steps as a thread's."""
    return full_plan(thread=steps)


def full_plan(top=RUN, bottom=RUN, thread=RUN):
    """A plan with these steps, and a line, a bottom and a thread beside them to speak of."""
    return Plan([a_line("linea", 1, top=RUN), a_line("lineb", 2, top=top)],
                bottoms=[("lowa", RUN), ("lowb", bottom)],
                threads=[("thra", 1, RUN), ("thrb", 2, thread)])


def names_of(one):
    """What ran in a run, a name for each tick, a point where nobody did; for names of one letter."""
    return "".join("." if who is None else who[1] for who in one.who())


PLACES = [plan_with_top, plan_with_bottom, plan_with_thread]
