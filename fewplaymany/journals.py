"""Journals: the texts of benches (section 17)."""

from fewplaymany.benches import Bench
from fewplaymany.deeds import deed_in, deed_text, does_deed
from fewplaymany.errors import BadJournal, BadMany, BadProgram, BadWords, HandError, Wide
from fewplaymany.kinds import integer_in
from fewplaymany.programs import Program

BEHIND_HEAD = "deeds"

# A Program of one line at least, words and players.
LEAST_HEAD = 3


def journal(bench):
    """The journal of a bench."""
    words = ["-" if word is None else str(word) for word in bench.words]
    players = "plain" if bench.players is None else f"played {bench.players}"
    lines = [deed_text(deed) for deed, ahead in bench.past]
    return "\n".join([bench.program.text, " ".join(["words", *words]), players, BEHIND_HEAD, *lines])


def read_journal(text):
    """The Bench on which was done what a journal tells."""
    if not isinstance(text, str):
        raise BadJournal(0)
    lines = text.split("\n")
    if BEHIND_HEAD not in lines:
        raise BadJournal(len(lines) + 1)
    head = lines[:lines.index(BEHIND_HEAD)]
    if len(head) < LEAST_HEAD:
        raise BadJournal(len(head) + 1)
    bench = bench_in(head)
    for number, line in enumerate(lines[len(head) + 1:], len(head) + 2):
        if not does_line(bench, line):
            raise BadJournal(number)
    return bench


def does_line(bench, line):
    """Does the deed of a line, and tells whether it is one that is not refused."""
    deed = deed_in(line)
    if deed is None:
        return False
    try:
        does_deed(bench, deed)
    except HandError:
        return False
    return True


def bench_in(head):
    """The Bench of the lines ahead of the deeds, the last two of which are of words and players."""
    behind = len(head) - 1
    text = "\n".join(head[:-2])
    check_program(text, behind)
    words = words_in(head[-2])
    if words is None:
        raise BadJournal(behind)
    players = players_in(head[-1])
    if players is None:
        raise BadJournal(behind + 1)
    try:
        return Bench(text, words, players[0])
    except BadMany:
        raise BadJournal(behind + 1) from None
    except BadWords:
        raise BadJournal(behind) from None


def check_program(text, behind):
    """Raises BadJournal unless a Bench can be made of the text; behind is the number of the line behind it."""
    try:
        program = Program(text)
    except BadProgram as error:
        raise BadJournal(error.value) from None
    except Wide:
        raise BadJournal(behind) from None
    if program.boxes > 0:
        raise BadJournal(behind)


def words_in(line):
    """The words of their line, None if it has no such form."""
    parts = line.split(" ")
    words = tuple([None if part == "-" else integer_in(part) for part in parts[1:]])
    fits = all([word is not None or part == "-" for word, part in zip(words, parts[1:])])
    return words if parts[0] == "words" and fits else None


def players_in(line):
    """(number of players, None for plain,) of their line, None if it has no such form."""
    parts = line.split(" ")
    if parts == ["plain"]:
        return (None,)
    number = integer_in(parts[1]) if len(parts) == 2 else None
    return (number,) if parts[0] == "played" and number is not None else None
