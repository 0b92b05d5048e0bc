"""Plans: lines with their tops, and the bottoms and threads behind them."""

from knockwell.errors import BadPlan
from knockwell.steps import are_steps, is_name, is_number, spoken_of

GUARD = (3, 10, 20)
MOST_LINES = 5
MOST_BOTTOMS = 4
MOST_THREADS = 4
MOST_RANK = 99
MOST_LET_BY = 9
WIDEST = 60
LONGEST_REST = 60
LARGE = 100000


def inner_values(value):
    """What stands within a list, a tuple or a dict; nothing within anything else."""
    if isinstance(value, dict):
        return list(value.values())
    if isinstance(value, (list, tuple)):
        return list(value)
    return []


def refilled(value, inner):
    """A new list, tuple or dict like this one with these values within; anything else as it is."""
    if isinstance(value, dict):
        return dict(zip(list(value), inner))
    if isinstance(value, tuple):
        return tuple(inner)
    if isinstance(value, list):
        return list(inner)
    return value


def copied(value):
    """The same with new lists and dicts all through."""
    # A line may be handed anything: a list nested too deep for calls within calls, so the values
    # stand in a row, each ahead of those within it; or one within itself, so the row ends somewhere.
    values = [value]
    spans = []
    while len(spans) < len(values) <= LARGE:
        inner = inner_values(values[len(spans)])
        spans.append((len(values), len(values) + len(inner)))
        values.extend(inner)
    for at in reversed(range(len(spans))):
        first, end = spans[at]
        values[at] = refilled(values[at], values[first:end])
    return values[0]


def line(name, top, *, rank=1, up=False, guard=GUARD):
    """A tuple of a line; whether it is a right one only a plan asks."""
    return copied((name, rank, up, guard, top))


def is_guard(value):
    """Whether this is a triple of most, wide and rest."""
    if not isinstance(value, tuple) or len(value) != 3:
        return False
    most, wide, rest = value
    return is_number(most, 1, MOST_LET_BY) and is_number(wide, 1, WIDEST) and is_number(rest, 1, LONGEST_REST)


def is_line(value):
    """Whether this is a tuple of a name, a rank, whether it is up till answered, a guard and a top."""
    if not isinstance(value, tuple) or len(value) != 5:
        return False
    name, rank, up, guard, top = value
    if not is_name(name) or not is_number(rank, 1, MOST_RANK) or not isinstance(up, bool):
        return False
    return is_guard(guard) and are_steps(top)


def is_bottom(value):
    """Whether this is a pair of a name and steps."""
    return isinstance(value, tuple) and len(value) == 2 and is_name(value[0]) and are_steps(value[1])


def is_thread(value):
    """Whether this is a triple of a name, a rank and steps."""
    if not isinstance(value, tuple) or len(value) != 3:
        return False
    name, rank, steps = value
    return is_name(name) and is_number(rank, 1, MOST_RANK) and are_steps(steps)


def is_name_among(value, names):
    """Whether this is one of these names, whatever it is."""
    # Its kind is asked first, so that nothing but texts is ever compared with a name.
    return isinstance(value, str) and value in names


def are_many(value, least, most):
    """Whether this is a list or a tuple of so many."""
    return isinstance(value, (list, tuple)) and least <= len(value) <= most


def are_unlike(rows, at):
    """Whether no two rows have the same at this place."""
    return len({row[at] for row in rows}) == len(rows)


def are_lines(value):
    """Whether these are a plan's lines, but for the names that their tops speak of."""
    if not are_many(value, 1, MOST_LINES) or not all([is_line(row) for row in value]):
        return False
    return are_unlike(value, 0) and are_unlike(value, 1)


def are_bottoms(value):
    """Whether these are a plan's bottoms, but for the names that their steps speak of."""
    if not are_many(value, 0, MOST_BOTTOMS) or not all([is_bottom(row) for row in value]):
        return False
    return are_unlike(value, 0)


def are_threads(value):
    """Whether these are a plan's threads, but for the names that their steps speak of."""
    if not are_many(value, 0, MOST_THREADS) or not all([is_thread(row) for row in value]):
        return False
    return are_unlike(value, 0) and are_unlike(value, 1)


def are_there(lines, bottoms, threads):
    """Whether all that the steps of right lines, bottoms and threads speak of is there."""
    steps = []
    for row in [*lines, *bottoms, *threads]:
        steps.extend(row[-1])
    for word, rows in (("answer", lines), ("later", bottoms), ("wake", threads)):
        names = [row[0] for row in rows]
        if not all([name in names for name in spoken_of(steps, word)]):
            return False
    return True


class Plan:
    """Lines, bottoms and threads that belong together; nobody changes one."""

    def __init__(self, lines, *, bottoms=(), threads=()):
        # No message shows what was handed in: some values can't be shown.
        if not are_lines(lines):
            raise BadPlan("no 1 to 5 lines, all right and no two with one name or one rank")
        if not are_bottoms(bottoms):
            raise BadPlan("no 0 to 4 bottoms, all right and no two with one name")
        if not are_threads(threads):
            raise BadPlan("no 0 to 4 threads, all right and no two with one name or one rank")
        if not are_there(lines, bottoms, threads):
            raise BadPlan("steps speak of a line, a bottom or a thread that isn't there")
        self.line_rows = copied(list(lines))
        self.bottom_rows = copied(list(bottoms))
        self.thread_rows = copied(list(threads))

    def lines(self):
        """Its lines, as they were handed in: tuples of a name, a rank, whether up, a guard and a top."""
        return copied(self.line_rows)

    def bottoms(self):
        """Its bottoms, as they were handed in: pairs of a name and steps."""
        return copied(self.bottom_rows)

    def threads(self):
        """Its threads, as they were handed in: triples of a name, a rank and steps."""
        return copied(self.thread_rows)

    def __eq__(self, other):
        return (isinstance(other, Plan) and self.line_rows == other.line_rows
                and self.bottom_rows == other.bottom_rows and self.thread_rows == other.thread_rows)
