"""Many hands of whom some may stop, and few that never wait, do the same tasks (section 14)."""

from fewplaymany.chains import chosen, made
from fewplaymany.errors import BadMany, BadStops, HasBoxes, NoProgram, OtherWords
from fewplaymany.kinds import is_below, is_lot, is_whole
from fewplaymany.lots import lies_in, lots_within
from fewplaymany.players import Played
from fewplaymany.programs import AnyProgram, Program
from fewplaymany.tasks import Task
from fewplaymany.values import is_same

MOST_HANDS = 4


def solved(task, many, stops):
    """("program", a PROGRAM that does the task whichever so many hands stop), or ("none", TREE)."""
    check_many(many, 1)
    if not is_below(stops, min(2, many)):
        raise BadStops(stops)
    if stops == 0:
        return ("program", Program(text_of_waiting(task, many)))
    found = chosen(task)
    if found[0] == "none":
        return found
    return ("program", many_of(made(task), many))


def check_many(many, least):
    """Raises BadMany unless many is an integer from least to 4."""
    if not is_whole(many) or not least <= many <= MOST_HANDS:
        raise BadMany(many)


def text_of_waiting(task, many):
    """The text of a program by which all hands say what is right alone for the word of hand 0."""
    lines = [f"hands {many}", "write mine", "wait seen less -1 part seen 0"]
    for word in task.words:
        lines.extend([f"if same part seen 0 {word}", f"say {task.ends((word,))[0][0]}", "end"])
    return "\n".join([*lines, "say 0"])


def few(program, stops):
    """The program, for hands of which so many may stop, played by one player more than may stop."""
    if not isinstance(program, AnyProgram):
        raise NoProgram(program)
    if program.boxes > 0:
        raise HasBoxes(program)
    check_stops(stops)
    return Played(program, stops + 1)


def many_of(program, many):
    """The program, for hands that never wait, played by so many players."""
    return Played(program, many)


def check_stops(stops):
    """Raises BadStops unless stops is an integer from 0 to 3."""
    if not is_below(stops, MOST_HANDS):
        raise BadStops(stops)


def same_by(one, other, stops):
    """("same",) if both tasks let the same be said for so few brought words, or ("parts", brought, said)."""
    check_parts(one, other, stops)
    for brought in lots_within(one.words):
        if len(brought) <= stops + 1:
            for said in (*one.ends(brought), *other.ends(brought)):
                if one.right(brought, said) != other.right(brought, said):
                    return ("parts", brought, said)
    return ("same",)


def check_parts(one, other, stops):
    """Raises what same_by raises."""
    if one.words != other.words:
        raise OtherWords(other)
    check_stops(stops)


def shows_same_by(one, other, stops, value):
    """Whether value is such a result as same_by tells."""
    check_parts(one, other, stops)
    if not isinstance(value, tuple) or len(value) != 3:
        return is_same(value, ("same",)) and same_by(one, other, stops) == ("same",)
    kind, brought, said = value
    if kind != "parts" or not is_lot(brought) or not is_lot(said):
        return False
    if not 1 <= len(brought) <= stops + 1 or not lies_in(brought, one.words):
        return False
    return one.right(brought, said) != other.right(brought, said)


def wall(many):
    """The Task in which any words may be said that were brought, but never so many as there are words."""
    check_many(many, 2)
    lots = [lot for lot in lots_within(list(range(many))) if len(lot) < many]
    texts = [" ".join([str(word) for word in lot]) for lot in sorted(lots, key=by_size)]
    return Task("\n".join([f"{text} : {text}" for text in texts]))


def by_size(lot):
    """What lots are sorted by: how many words they have, then as tuples."""
    return (len(lot), lot)
