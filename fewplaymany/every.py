"""What all weavings of a small program can come to (section 16)."""

from math import comb

from fewplaymany.errors import BadStops, BadWords, HasBoxes, NoProgram, NoWords, TooMany
from fewplaymany.kinds import are_words, is_below, is_lot, is_weaving
from fewplaymany.lots import lies_in, lot_of
from fewplaymany.moments import first_moment, moments_of
from fewplaymany.programs import AnyProgram, Program
from fewplaymany.tables import Tabled

MOST_WEAVINGS = 2000


def check_program(program, words):
    """Raises NoProgram, HasBoxes or BadWords, what all functions raise first."""
    if not isinstance(program, AnyProgram):
        raise NoProgram(program)
    if program.boxes > 0:
        raise HasBoxes(program)
    if not are_words(words, program.many):
        raise BadWords(words)


def check_few(program, words):
    """Raises TooMany, behind all other errors, unless all weavings can be gone through."""
    if not isinstance(program, (Program, Tabled)) or weavings_of(program, words) > MOST_WEAVINGS:
        raise TooMany(MOST_WEAVINGS)


def weavings_of(program, words):
    """How many weavings there are in which each hand that comes stands as often as it has steps."""
    steps = program.steps if isinstance(program, Program) else 2 * program.rounds + 1
    count = 1
    for comers in range(1, len(comers_of(words)) + 1):
        count = count * comb(comers * steps, steps)
    return count


def comers_of(words):
    """The lot of the hands that come."""
    return tuple([hand for hand, word in enumerate(words) if word is not None])


def every_said(program, words):
    """All rows of words said that stand at some moment, ascending, -1 for what is not said."""
    check_program(program, words)
    check_few(program, words)
    rows = [row_said(moment) for moment, weaving in moments_of(program, words)]
    return tuple(sorted(set(rows)))


def row_said(moment):
    """For each hand what it has said at a moment, -1 for nothing."""
    return tuple([-1 if word is None else word for word in moment.said])


def wrong_weaving(program, task, words):
    """A shortest weaving behind which what is said is not right for what was brought, None without one."""
    check_wrong(program, task, words)
    for moment, weaving in moments_of(program, words):
        if is_wrong(task, moment):
            return weaving
    return None


def check_wrong(program, task, words):
    """Raises what wrong_weaving raises."""
    check_program(program, words)
    lot = lot_of([word for word in words if word is not None])
    if not lies_in(lot, task.words):
        raise NoWords(lot)
    check_few(program, words)


def is_wrong(task, moment):
    """Whether somebody has said, and what is said is not right for what was brought."""
    said = moment.lot_said()
    return said != () and not task.right(moment.lot_brought(), said)


def shows_wrong_weaving(program, task, words, value):
    """Whether value is such a result as wrong_weaving tells."""
    found = wrong_weaving(program, task, words)
    if found is None:
        return value is None
    if not is_weaving(value, program.many) or len(value) != len(found):
        return False
    return is_wrong(task, moment_behind(program, words, value))


def moment_behind(program, words, weaving):
    """The moment behind a weaving."""
    moment = first_moment(program, words)
    for hand in weaving:
        if moment.may_step(hand):
            moment = moment.behind(hand)
    return moment


def stuck(program, words, stops):
    """(weaving, lot of so few hands): if these stop behind it, somebody else never says; None if nobody is stuck."""
    check_stuck(program, words, stops)
    # Whoever is stuck at last looks in vain, and so do all others who did not stop or say.
    for moment, weaving in moments_of(program, words):
        left = [hand for hand in comers_of(words) if moment.may_step(hand)]
        going = tuple([hand for hand in left if not moment.is_waiting(hand)])
        if len(going) <= stops and len(going) < len(left):
            return (weaving, going)
    return None


def check_stuck(program, words, stops):
    """Raises what stuck raises."""
    check_program(program, words)
    if not is_below(stops, program.many):
        raise BadStops(stops)
    check_few(program, words)


def shows_stuck(program, words, stops, value):
    """Whether value is such a result as stuck tells."""
    check_stuck(program, words, stops)
    if value is None:
        return stuck(program, words, stops) is None
    if not isinstance(value, tuple) or len(value) != 2:
        return False
    weaving, lot = value
    if not is_weaving(weaving, program.many) or not is_lot(lot) or len(lot) > stops:
        return False
    if not lies_in(lot, comers_of(words)):
        return False
    others = [hand for hand in comers_of(words) if hand not in lot]
    return is_stuck(moment_behind(program, words, weaving), others)


def is_stuck(moment, others):
    """Whether some of these hands never says, if they go on by turns."""
    went = True
    while went:
        went = False
        for hand in others:
            if moment.may_step(hand):
                moment = moment.behind(hand)
                went = went or not moment.hands[hand].in_vain
    return any([moment.may_step(hand) for hand in others])
