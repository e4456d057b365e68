"""Runs: which ones can be, their texts, and what is told of them (section 5)."""

from fewplaymany.errors import BadLot, BadRun, BadText, BadWords, NotSwapped
from fewplaymany.houses import House
from fewplaymany.kinds import are_words, is_below, is_lot, is_whole
from fewplaymany.lots import lot_of
from fewplaymany.players import forget, is_played
from fewplaymany.steps import are_steps, MOST_HANDS, step_in, step_text
from fewplaymany.values import is_same


def judged(program, words, value, boxes=()):
    """("run",) if value could be the run of a House of these, otherwise ("wrong", the first wrong place)."""
    house = House(program, words, boxes)
    if not isinstance(value, tuple):
        return ("wrong", 0)
    for number, thing in enumerate(value):
        if not does(house, thing):
            return ("wrong", number)
    return ("run",)


def does(house, thing):
    """Does the STEP that thing is in a house, and tells whether it can be done there."""
    if not isinstance(thing, tuple) or len(thing) != 3:
        return False
    hand, kind, matter = thing
    due = house.next(hand) if is_below(hand, house.program.many) else None
    if due is None:
        return False
    if kind == "forget":
        return does_forget(house, hand, matter)
    if kind != due[0]:
        return False
    if kind == "answer":
        return does_answer(house, hand, matter)
    return does_plainly(house, hand, matter)


def does_forget(house, hand, matter):
    """As does, of a forget of one who has not said."""
    if matter is not None or not is_played(house):
        return False
    forget(house, hand)
    return True


def does_answer(house, hand, matter):
    """As does, of an answer where one is next."""
    if not isinstance(matter, tuple) or len(matter) != 2:
        return False
    box, word = matter
    if not is_same(box, house.next(hand)[1]) or not is_whole(word) or word not in house.answers(hand):
        return False
    house.step(hand, word)
    return True


def does_plainly(house, hand, matter):
    """As does, of any other STEP, of a kind that is next."""
    due = house.next(hand)
    if due[0] == "look":
        wanted = house.boards
    else:
        wanted = due[1:] if due[0] == "ask" else due[1]
    if not is_same(matter, wanted):
        return False
    house.step(hand)
    return True


def run_text(run):
    """The text of a run."""
    if not are_steps(run):
        raise BadRun(run)
    return "\n".join([step_text(step) for step in run])


def run_in(text):
    """The run of a text."""
    if not isinstance(text, str):
        raise BadText(0)
    if text == "":
        return ()
    run = []
    for number, line in enumerate(text.split("\n"), 1):
        step = step_in(line)
        if step is None:
            raise BadText(number)
        run.append(step)
    return tuple(run)


def brought(words, run):
    """The lot of the words of hands that have a STEP in a run."""
    if not isinstance(words, tuple) or not 1 <= len(words) <= MOST_HANDS or not are_words(words, len(words)):
        raise BadWords(words)
    if not are_steps(run):
        raise BadRun(run)
    found = [words[step[0]] if step[0] < len(words) else None for step in run]
    if None in found:
        raise BadRun(run)
    return lot_of(found)


def swapped(run, number):
    """The run with the STEP of this number and the one behind it exchanged."""
    if not are_steps(run):
        raise BadRun(run)
    if not is_below(number, len(run) - 1) or not may_be_swapped(run[number], run[number + 1]):
        raise NotSwapped(number)
    return run[:number] + (run[number + 1], run[number]) + run[number + 2:]


def may_be_swapped(one, other):
    """Whether two STEPs, one behind the other, may be exchanged."""
    kinds = sorted([one[1], other[1]])
    if one[0] == other[0] or kinds == ["look", "write"]:
        return False
    return kinds != ["answer", "ask"] or one[2][0] != other[2][0]


def alike(one, other, lot):
    """Whether each hand of a lot takes the same STEPs in two runs, in sequence."""
    if not are_steps(one):
        raise BadRun(one)
    if not are_steps(other):
        raise BadRun(other)
    if not is_lot(lot):
        raise BadLot(lot)
    return all([steps_of(one, hand) == steps_of(other, hand) for hand in lot])


def steps_of(run, hand):
    """The STEPs of one hand in a run, in sequence."""
    return [step for step in run if step[0] == hand]
