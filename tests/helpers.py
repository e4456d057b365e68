"""What the tests share."""

import unittest

from fewplaymany.benches import Bench
from fewplaymany.boxes import Filled
from fewplaymany.houses import House
from fewplaymany.players import Played
from fewplaymany.programs import Program
from fewplaymany.reads import Reads
from fewplaymany.tables import Tabled
from fewplaymany.tasks import Task

# The programs of point 4's examples.
LEAST = "hands 2\nwrite mine\nlook seen\nsay least seen"
ROUNDS = (
    "hands 3\nkeep best mine\nagain 2\nwrite row 2 me best\nlook seen\nif same count seen many\n"
    "keep best greatest row 2 best part part seen 2 1\nelse\nsay best\nend\nend\nsay best"
)

# The program of point 5's, 6's and 9's examples, and one that asks.
PAIR = "hands 2\nwrite mine\nlook s\nsay greatest s"
ASKING = "hands 2\nask 0 mine got\nwrite got\nlook seen\nsay least seen"

# Numbers of hands that are none, whatever the hands.
NO_HANDS = (-1, 6, 100, True, False, None, "0", "", (), (0,), [0], {}, b"0")


def text_of(*lines, hands=2):
    """The text of a program of these lines behind the first one."""
    return "\n".join([f"hands {hands}", *lines])


def strict(value):
    """A form in which True is not 1 and a list is not a tuple."""
    if isinstance(value, (tuple, list)):
        return (type(value).__name__, [strict(thing) for thing in value])
    if isinstance(value, dict):
        return ("dict", [(strict(key), strict(value[key])) for key in value])
    if isinstance(value, (Program, Task)):
        return (type(value).__name__, value.text)
    if isinstance(value, Played):
        return ("Played", strict(value.program), value.many, value.turns)
    if isinstance(value, Tabled):
        return ("Tabled", value.many, value.rounds, strict(value.table))
    if isinstance(value, Filled):
        return ("Filled", strict(value.program), value.box, strict(value.other))
    if isinstance(value, House):
        return ("House", strict(value.program), strict(value.words), strict(value.boxes), strict(value.run))
    return (type(value).__name__, repr(value))


def some_values():
    """Values of every kind that may be handed in."""
    return [
        0, 1, -1, 5, 100, True, False, None, "", "1", "a", "within", (), (1,), (True,), ("1",), (None,),
        (1, 1), (2, 1), (-1,), [], [1], [1, 2], {}, {1: 2}, ((1,),), ([1],), ("within",), ["within"],
        Program("hands 1\nsay 0"), Task("1 : 1"), (Task("1 : 1"),), House(Program(PAIR), (1, 2)), Played(Program(PAIR), 2),
        Reads(Program(PAIR), (1, 2)), ((0, "write", 1),), (0, "write", 1), [(0, "write", 1)], ([0, "write", 1],),
        Tabled(2, 0, ()), Filled(Program(ASKING), 0, Program(PAIR)), Bench(PAIR, (1, 2)), Bench(PAIR, (1, None), 2),
    ]


def bent(value):
    """Values near to this one: with things out, twice, turned about, a little off, or of another kind, at each place of it."""
    if isinstance(value, tuple):
        yield list(value)
        yield value + (0,)
        for at, thing in enumerate(value):
            yield value[:at] + value[at + 1:]
            yield value[:at + 1] + value[at:]
            yield value[:at] + value[at:at + 2][::-1] + value[at + 2:]
            for other in bent(thing):
                yield value[:at] + (other,) + value[at + 1:]
    elif isinstance(value, int):
        yield from (value + 1, value - 1, None, str(value), (value,))
        if value in (0, 1):
            yield bool(value)
    elif isinstance(value, str):
        yield from (value + "s", value.upper(), "", None)
    elif value is None:
        yield from (0, (), False, "-")
    else:
        yield None


def programs_barred():
    """Values that are no PROGRAM."""
    return [value for value in some_values() if not isinstance(value, (Program, Played, Tabled, Filled))] + [Program, Tabled, PAIR]


class Case(unittest.TestCase):
    """Test cases that compare strictly."""

    def same(self, found, wanted, told=None):
        """found and wanted are one value, of one kind throughout."""
        self.assertEqual(strict(found), strict(wanted), told)

    def refuses(self, error, value, call, *args, **named):
        """The call raises just this error, with this value."""
        with self.assertRaises(error) as held:
            call(*args, **named)
        self.assertIs(type(held.exception), error)
        self.same(held.exception.value, value, (args, named))

    def equal(self, one, other):
        """Both are equal, whichever is asked."""
        self.assertTrue(one == other and other == one and not one != other and not other != one)

    def unequal(self, one, other):
        """Both are not equal, whichever is asked."""
        self.assertTrue(one != other and other != one and not one == other and not other == one)

    def no_operators(self, one):
        """No operator takes it but == and !=."""
        for call in (lambda: one < one, lambda: one + one, lambda: one <= 1, lambda: one in one, lambda: 1 in one,
                     lambda: one[0], lambda: iter(one), lambda: one * 2, lambda: -one, lambda: one | one):
            self.assertRaises(TypeError, call)
