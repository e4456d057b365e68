"""STEPs: which values are such, how they come, and their lines in the text of a run (sections 2 and 5)."""

from fewplaymany.kinds import integer_in, is_below, is_word
from fewplaymany.values import is_value, value_text, values_in

# Hands and boxes in STEPs are below this number, and no look sees more boards.
MOST_HANDS = 6


def is_step(value):
    """Whether value is a STEP."""
    if not isinstance(value, tuple) or len(value) != 3:
        return False
    hand, kind, matter = value
    return is_below(hand, MOST_HANDS) and is_matter(kind, matter)


def is_matter(kind, matter):
    """Whether matter can stand in a STEP behind this kind."""
    if kind == "write":
        return is_value(matter)
    if kind == "look":
        return isinstance(matter, tuple) and 1 <= len(matter) <= MOST_HANDS and is_value(matter)
    if kind == "say":
        return is_word(matter)
    if kind in ("ask", "answer"):
        return is_box_word(matter)
    return kind == "forget" and matter is None


def is_box_word(matter):
    """Whether matter is (box, WORD)."""
    if not isinstance(matter, tuple) or len(matter) != 2:
        return False
    return is_below(matter[0], MOST_HANDS) and is_word(matter[1])


def are_steps(value):
    """Whether value is a tuple of STEPs."""
    return isinstance(value, tuple) and all([is_step(thing) for thing in value])


def step_of(number, due, told):
    """The STEP by which the hand of this number does what is due; told is what is seen or answered."""
    kind = due[0]
    if kind == "look":
        return (number, kind, told)
    if kind == "ask":
        return (number, kind, due[1:])
    if kind == "answer":
        return (number, kind, (due[1], told))
    return (number, kind, due[1])


def step_text(step):
    """The line of a STEP."""
    hand, kind, matter = step
    if kind == "forget":
        return f"{hand} forget"
    things = matter if kind in ("look", "ask", "answer") else (matter,)
    return f"{hand} {kind} " + " ".join([value_text(thing) for thing in things])


def step_in(line):
    """The STEP of a line, None if it is none."""
    words = line.split(" ")
    things = values_in(words[2:])
    if len(words) < 2 or things is None:
        return None
    step = (integer_in(words[0]), words[1], matter_of(words[1], things))
    # Only its own line writes a STEP, so nothing that the line has too much is overlooked.
    return step if is_step(step) and step_text(step) == line else None


def matter_of(kind, things):
    """What stands in the STEP of a line with these VALUES behind its kind."""
    if kind in ("look", "ask", "answer"):
        return things
    return things[0] if things else None
