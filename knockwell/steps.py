"""Names, numbers and steps: what is one, and what steps speak of."""

LETTERS = "abcdefghijklmnopqrstuvwxyz"
LONGEST_NAME = 8
MOST_STEPS = 12
MOST_TICKS = 9
LONE_WORDS = ("mask", "open")
NAMING_WORDS = ("answer", "later", "wake")


def is_number(value, least, most):
    """Whether this is a whole number from least to most."""
    # Python counts True and False among the whole numbers; the document doesn't.
    return isinstance(value, int) and not isinstance(value, bool) and least <= value <= most


def is_name(value):
    """Whether this is a text of 1 to 8 small letters."""
    if not isinstance(value, str) or not 1 <= len(value) <= LONGEST_NAME:
        return False
    return all([sign in LETTERS for sign in value])


def is_step(value):
    """Whether this is a step, whatever stands around it."""
    # The word's kind is asked first, so that nothing but texts is ever compared with a word.
    if not isinstance(value, tuple) or len(value) not in (1, 2) or not isinstance(value[0], str):
        return False
    if len(value) == 1:
        return value[0] in LONE_WORDS
    word, told = value
    if word == "run":
        return is_number(told, 1, MOST_TICKS)
    return word in NAMING_WORDS and is_name(told)


def opens_only_masked(steps):
    """Whether each `open` takes off a mask that these very steps have put on."""
    masks = 0
    for step in steps:
        if step[0] == "mask":
            masks += 1
        elif step[0] == "open":
            masks -= 1
        if masks < 0:
            return False
    return True


def are_steps(value):
    """Whether these are steps, but for whether the names that they speak of are there."""
    if not isinstance(value, list) or not 1 <= len(value) <= MOST_STEPS:
        return False
    if not all([is_step(step) for step in value]):
        return False
    return any([step[0] == "run" for step in value]) and opens_only_masked(value)


def spoken_of(steps, word):
    """The names that the steps with this word speak of, as they stand."""
    return [step[1] for step in steps if step[0] == word]
