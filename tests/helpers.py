"""What the tests share."""

import unittest

from fewplaymany.houses import House
from fewplaymany.players import Played
from fewplaymany.programs import Program
from fewplaymany.reads import Reads
from fewplaymany.tasks import Task

# The programs of point 4's examples.
LEAST = "hands 2\nwrite mine\nlook seen\nsay least seen"
ROUNDS = (
    "hands 3\nkeep best mine\nagain 2\nwrite row 2 me best\nlook seen\nif same count seen many\n"
    "keep best greatest row 2 best part part seen 2 1\nelse\nsay best\nend\nend\nsay best"
)

# The program of point 5's, 6's and 9's examples, and one that asks.
PAIR = "hands 2\nwrite mine\nlook s\nsay greatest s"
ASKING = "hands 2\nask 0 mine got\nwrite got\nlook seen\nsay least seen"

# Numbers of hands that are none, whatever the hands.
NO_HANDS = (-1, 6, 100, True, False, None, "0", "", (), (0,), [0], {}, b"0")


def text_of(*lines, hands=2):
    """The text of a program of these lines behind the first one."""
    return "\n".join([f"hands {hands}", *lines])


def strict(value):
    """A form in which True is not 1 and a list is not a tuple."""
    if isinstance(value, (tuple, list)):
        return (type(value).__name__, [strict(thing) for thing in value])
    if isinstance(value, dict):
        return ("dict", [(strict(key), strict(value[key])) for key in value])
    if isinstance(value, (Program, Task)):
        return (type(value).__name__, value.text)
    if isinstance(value, Played):
        return ("Played", strict(value.program), value.many, value.turns)
    return (type(value).__name__, repr(value))


def some_values():
    """Values of every kind that may be handed in."""
    return [
        0, 1, -1, 5, 100, True, False, None, "", "1", "a", "within", (), (1,), (True,), ("1",), (None,),
        (1, 1), (2, 1), (-1,), [], [1], [1, 2], {}, {1: 2}, ((1,),), ([1],), ("within",), ["within"],
        Program("hands 1\nsay 0"), Task("1 : 1"), (Task("1 : 1"),), House(Program(PAIR), (1, 2)), Played(Program(PAIR), 2),
        Reads(Program(PAIR), (1, 2)), ((0, "write", 1),), (0, "write", 1), [(0, "write", 1)], ([0, "write", 1],),
    ]


def programs_barred():
    """Values that are no PROGRAM."""
    return [value for value in some_values() if not isinstance(value, (Program, Played))] + [Program, Played, PAIR]


class Case(unittest.TestCase):
    """Test cases that compare strictly."""

    def same(self, found, wanted, told=None):
        """found and wanted are one value, of one kind throughout."""
        self.assertEqual(strict(found), strict(wanted), told)

    def refuses(self, error, value, call, *args, **named):
        """The call raises just this error, with this value."""
        with self.assertRaises(error) as held:
            call(*args, **named)
        self.assertIs(type(held.exception), error)
        self.same(held.exception.value, value, (args, named))

    def equal(self, one, other):
        """Both are equal, whichever is asked."""
        self.assertTrue(one == other and other == one and not one != other and not other != one)

    def unequal(self, one, other):
        """Both are not equal, whichever is asked."""
        self.assertTrue(one != other and other != one and not one == other and not other == one)

    def no_operators(self, one):
        """No operator takes it but == and !=."""
        for call in (lambda: one < one, lambda: one + one, lambda: one <= 1, lambda: one in one, lambda: 1 in one,
                     lambda: one[0], lambda: iter(one), lambda: one * 2, lambda: -one, lambda: one | one):
            self.assertRaises(TypeError, call)
