"""The E and C of programs (section 4): read from words, and reckoned.

An E or C is kept as the tuple of its tokens in the sequence of its words. It is
reckoned from the last token to the first one, so that each token finds what belongs
to it done, however deep they are nested.
"""

from fewplaymany.kinds import is_name, is_whole, number_in

TERM = "E"
TEST = "C"
SIZE = "K"

# What has to stand behind each word that does not stand alone.
BEHIND_TERM = {
    "row": "K", "part": "EE", "least": "E", "greatest": "E",
    "lot": "E", "count": "E", "plus": "EE", "half": "E",
}
BEHIND_TEST = {"same": "EE", "less": "EE", "has": "EE", "not": "C", "and": "CC", "or": "CC"}

GIVEN = ("mine", "me", "many")
OF_LINES = ("hands", "keep", "write", "look", "wait", "if", "else", "again", "end", "ask", "say")

MOST_THINGS = 200
MOST_SUM = 9999


def is_free_name(word):
    """Whether word is a name that nothing in a program is told by."""
    taken = word == "none" or word in GIVEN or word in OF_LINES
    return is_name(word) and not (taken or word in BEHIND_TERM or word in BEHIND_TEST)


def term_in(words, sort):
    """The tokens of the one E or C (so sort tells) that words are; None if they are none."""
    wanted = [sort]
    tokens = []
    for word in words:
        if not wanted:
            return None
        found = token_in(word, wanted.pop())
        if found is None:
            return None
        token, behind = found
        if token is not None:
            tokens.append(token)
        wanted.extend(list(behind))
    return None if wanted else tuple(tokens)


def token_in(word, sort):
    """(token, what has to stand behind it) of a word in the place of this sort, or None.

    The token of a row comes with its size, so the word itself has None.
    """
    if sort == SIZE:
        size = number_in(word, 0, 6)
        return None if size is None else (("row", size), TERM * size)
    behind = BEHIND_TEST.get(word) if sort == TEST else BEHIND_TERM.get(word)
    if behind is not None:
        return (None if word == "row" else (word, len(behind))), behind
    return None if sort == TEST else plain_token(word)


def plain_token(word):
    """As token_in, of a word that can be an E by itself."""
    number = number_in(word, -99, 99)
    if word == "none" or number is not None:
        return ("value", number), ""
    if word in GIVEN or is_free_name(word):
        return ("name", word), ""
    return None


def worth(tokens, known):
    """The VALUE of an E, or whether a C holds; known has the VALUES of names."""
    done = []
    for what, told in reversed(tokens):
        if what == "value":
            done.append(told)
        elif what == "name":
            done.append(known.get(told))
        else:
            at = len(done) - told
            things = done[at:][::-1]
            del done[at:]
            work = WORKS[what]
            done.append(work(*things))
    return done[0]


def narrowed(value):
    """The VALUE, None in its place if it has more things than a hand can keep."""
    things = 0
    left = [value]
    while left:
        thing = left.pop()
        things += 1
        if things > MOST_THINGS:
            return None
        if isinstance(thing, tuple):
            left.extend(thing)
    return value


def integers_in(value):
    """All integers anywhere in a VALUE, or itself."""
    found = []
    left = [value]
    while left:
        thing = left.pop()
        if isinstance(thing, tuple):
            left.extend(thing)
        elif thing is not None:
            found.append(thing)
    return found


def row_of(*things):
    """row K E .. E"""
    return things


def part_of(whole, at):
    """part E F"""
    if isinstance(whole, tuple) and is_whole(at) and 0 <= at < len(whole):
        return whole[at]
    return None


def least_in(value):
    """least E"""
    return min(integers_in(value), default=None)


def greatest_in(value):
    """greatest E"""
    return max(integers_in(value), default=None)


def lot_in(value):
    """lot E"""
    return tuple(sorted(set(integers_in(value))))


def count_in(value):
    """count E"""
    if not isinstance(value, tuple):
        return 0
    return len([thing for thing in value if thing is not None])


def sum_of(one, other):
    """plus E F"""
    if not is_whole(one) or not is_whole(other):
        return None
    return max(-MOST_SUM, min(MOST_SUM, one + other))


def half_of(value):
    """half E"""
    return value // 2 if is_whole(value) else None


def is_same(one, other):
    """same E F"""
    return one == other


def is_less(one, other):
    """less E F"""
    return is_whole(one) and is_whole(other) and one < other


def has_in(value, number):
    """has E F"""
    return number in integers_in(value)


def is_not(one):
    """not C"""
    return not one


def are_both(one, other):
    """and C D"""
    return one and other


def is_either(one, other):
    """or C D"""
    return one or other


WORKS = {
    "row": row_of, "part": part_of, "least": least_in, "greatest": greatest_in,
    "lot": lot_in, "count": count_in, "plus": sum_of, "half": half_of,
    "same": is_same, "less": is_less, "has": has_in,
    "not": is_not, "and": are_both, "or": is_either,
}
