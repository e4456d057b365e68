"""VALUES: which values are such, their texts and sequence, and when two are one (section 2)."""

from fewplaymany.kinds import integer_in, is_whole

MOST_DEEP = 12
MOST_ENTRIES = 60
MOST_INTEGER = 9999


def is_value(value):
    """Whether value is a VALUE, of any size."""
    left = [value]
    while left:
        thing = left.pop()
        if isinstance(thing, tuple):
            left.extend(thing)
        elif thing is not None and not is_whole(thing):
            return False
    return True


def is_small_value(value):
    """Whether value is a VALUE that may be handed in as such."""
    return is_small_within(value, MOST_DEEP)


def is_small_within(value, deep):
    """As is_small_value, with at most so many tuples within one another."""
    if isinstance(value, tuple):
        if deep == 0 or len(value) > MOST_ENTRIES:
            return False
        return all([is_small_within(thing, deep - 1) for thing in value])
    return value is None or (is_whole(value) and -MOST_INTEGER <= value <= MOST_INTEGER)


def is_same(value, wanted):
    """Whether any value is the wanted one, which is made of VALUES and strings.

    Beside equal integers only their texts tell a bool.
    """
    return value == wanted and repr(value) == repr(wanted)


def value_key(value):
    """What VALUES are sorted by: None, integers, tuples by the first entry at which they are unlike."""
    if value is None:
        return (0,)
    if isinstance(value, tuple):
        return (2, tuple([value_key(thing) for thing in value]))
    return (1, value)


def value_text(value):
    """The text of a VALUE."""
    words = []
    left = [value]
    while left:
        thing = left.pop()
        if isinstance(thing, tuple):
            words.append("(")
            left.append(")")
            left.extend(thing[::-1])
        elif thing is None:
            words.append("-")
        else:
            words.append(str(thing))
    return " ".join(words)


def values_in(words):
    """The tuple of the VALUES that words write one behind the other, None if they write none."""
    levels = [[]]
    for word in words:
        if word == "(":
            levels.append([])
        elif word == ")":
            if len(levels) == 1:
                return None
            done = tuple(levels.pop())
            levels[-1].append(done)
        elif word == "-":
            levels[-1].append(None)
        else:
            number = integer_in(word)
            if number is None:
                return None
            levels[-1].append(number)
    return tuple(levels[0]) if len(levels) == 1 else None
