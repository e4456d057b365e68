"""The lines of a program (section 4), read into blocks, and the greatest numbers of steps and asks.

A block is a tuple of items: ("keep", NAME, E), ("write", E), ("look", NAME),
("wait", NAME, C), ("ask", NAME, E, box), ("say", E), ("if", C, block, block of else)
and ("again", times, block), with E and C as tokens (terms.py).
"""

from fewplaymany.kinds import number_in
from fewplaymany.terms import is_free_name, TERM, term_in, TEST

MOST_DEEP = 4

STEPS = {"keep": 0, "write": 1, "look": 1, "wait": 1, "ask": 2, "say": 1}


class Reader:
    """Takes the lines of a program behind the first one, one by one.

    `bodies` has the items of each open block, the outermost one first, and `heads` what
    opened each of them but the outermost one.
    """

    def __init__(self):
        self.bodies = [[]]
        self.heads = []
        self.behind_say = False
        self.boxes = 0
        self.waits = False

    def takes(self, line):
        """Takes the next line, and tells whether it can stand there."""
        words = line.split(" ")
        if words == ["end"]:
            return self.ends_block()
        if words == ["else"]:
            return self.turns_block()
        if self.behind_say:
            return False
        if words[0] in ("if", "again"):
            return self.opens_block(words)
        return self.takes_item(words)

    def whole(self):
        """The block of all lines, if nothing lacks behind them; otherwise None."""
        return tuple(self.bodies[0]) if self.behind_say and not self.heads else None

    def takes_item(self, words):
        """Takes a line that is no part of a block's frame."""
        item = item_in(words)
        if item is None:
            return False
        self.bodies[-1].append(item)
        self.behind_say = item[0] == "say"
        if item[0] == "wait":
            self.waits = True
        if item[0] == "ask":
            self.boxes = max(self.boxes, item[3] + 1)
        return True

    def opens_block(self, words):
        """Takes a line of if or again."""
        head = head_in(words)
        if head is None or len(self.heads) == MOST_DEEP:
            return False
        self.heads.append(head)
        self.bodies.append([])
        return True

    def turns_block(self):
        """Takes the line else."""
        if not self.heads or self.heads[-1][0] != "if":
            return False
        self.heads[-1] = ("else", self.heads[-1][1], tuple(self.bodies[-1]))
        self.bodies[-1] = []
        self.behind_say = False
        return True

    def ends_block(self):
        """Takes the line end."""
        if not self.heads:
            return False
        block = tuple(self.bodies.pop())
        self.bodies[-1].append(item_of(self.heads.pop(), block))
        self.behind_say = False
        return True


def head_in(words):
    """("if", C) or ("again", times), None if the words are no such line."""
    if words[0] == "if":
        test = term_in(words[1:], TEST)
        return None if test is None else ("if", test)
    times = number_in(words[1], 1, 9) if len(words) == 2 else None
    return None if times is None else ("again", times)


def item_of(head, block):
    """The item of a block that is ended, and of what opened it."""
    if head[0] == "if":
        return ("if", head[1], block, ())
    if head[0] == "else":
        return ("if", head[1], head[2], block)
    return ("again", head[1], block)


def item_in(words):
    """The item of a line outside of a block's frame, None if it is no such line."""
    reader = READERS.get(words[0])
    return None if reader is None else reader(words)


def term_item_in(words):
    """write E, say E"""
    term = term_in(words[1:], TERM)
    return None if term is None else (words[0], term)


def keep_in(words):
    """keep NAME E"""
    term = term_in(words[2:], TERM)
    return None if term is None or not is_free_name(words[1]) else ("keep", words[1], term)


def look_in(words):
    """look NAME"""
    return ("look", words[1]) if len(words) == 2 and is_free_name(words[1]) else None


def wait_in(words):
    """wait NAME C"""
    test = term_in(words[2:], TEST)
    return None if test is None or not is_free_name(words[1]) else ("wait", words[1], test)


def ask_in(words):
    """ask B E NAME"""
    term = term_in(words[2:-1], TERM)
    if term is None or not is_free_name(words[-1]):
        return None
    box = number_in(words[1], 0, 2)
    return None if box is None else ("ask", words[-1], term, box)


READERS = {
    "keep": keep_in, "write": term_item_in, "look": look_in,
    "wait": wait_in, "ask": ask_in, "say": term_item_in,
}


def most_steps(block):
    """The greatest number of steps along any way through the lines of a program."""
    return measured(block, None)[1]


def most_asks(block, box):
    """The greatest number of times that a box is asked along any way through the lines of a program."""
    return measured(block, box)[1]


def measured(block, box):
    """The greatest numbers of steps of ways that pass through a block, and that end in it.

    None stands for either of them where there is no such way. Beside a box, its asks are
    counted instead of steps.
    """
    through, ended = 0, None
    for item in block:
        # No way comes to what stands behind.
        if through is None:
            break
        passing, ending = measured_item(item, box)
        ended = greater(ended, plus(through, ending))
        through = plus(through, passing)
    return through, ended


def measured_item(item, box):
    """As measured, of one item."""
    if item[0] == "say":
        return None, weight_of(item, box)
    if item[0] == "if":
        one, other = measured(item[2], box), measured(item[3], box)
        return greater(one[0], other[0]), greater(one[1], other[1])
    if item[0] == "again":
        return measured_again(item[1], item[2], box)
    return weight_of(item, box), None


def weight_of(item, box):
    """How many steps an item takes; beside a box, how often it asks this box."""
    if box is None:
        return STEPS[item[0]]
    return 1 if item[0] == "ask" and item[3] == box else 0


def measured_again(times, block, box):
    """As measured, of a block that is done so many times."""
    passing, ending = measured(block, box)
    if passing is None:
        return None, ending
    return times * passing, plus((times - 1) * passing, ending)


def plus(one, other):
    """The sum of two numbers of steps, None if one of them is."""
    return None if one is None or other is None else one + other


def greater(one, other):
    """The greater number of steps, None counting as none."""
    if one is None or other is None:
        return one if other is None else other
    return max(one, other)
