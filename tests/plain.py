"""A second, plainest telling of point 4, by which the program's own is judged.

It copies lines of again out as often as they are told, and follows texts word by word.
"""

import random


def take_block(lines, at):
    """The lines of the block that begins at a line, as a tree, and where it ends."""
    block = []
    while at < len(lines) and lines[at] not in ("else", "end"):
        words = lines[at].split(" ")
        if words[0] == "again":
            inner, at = take_block(lines, at + 1)
            for _ in range(int(words[1])):
                block.append(("once", inner))
        elif words[0] == "if":
            then, at = take_block(lines, at + 1)
            other = []
            if lines[at] == "else":
                other, at = take_block(lines, at + 1)
            block.append(("if", words[1:], then, other))
        else:
            block.append((words[0], words[1:]))
        at += 1
    return block, at


def tree_of(text):
    """The tree of a program's lines behind the first one."""
    return take_block(text.split("\n")[1:], 0)[0]


def ways(block, steps):
    """All (number of steps, whether a say ended it) of ways through a block that begin with one of these numbers."""
    going, ended = set(steps), set()
    for item in block:
        if item[0] == "say":
            ended |= {number + 1 for number in going}
            going = set()
        elif item[0] == "once":
            more = ways(item[1], going)
            going, ended = more[0], ended | more[1]
        elif item[0] == "if":
            then, other = ways(item[2], going), ways(item[3], going)
            going, ended = then[0] | other[0], ended | then[1] | other[1]
        else:
            count = {"keep": 0, "write": 1, "look": 1, "wait": 1, "ask": 2}[item[0]]
            going = {number + count for number in going}
    return going, ended


def most_steps(text):
    """The greatest number of steps along any way."""
    return max(ways(tree_of(text), {0})[1])


def flat(value):
    """A VALUE and all things in it."""
    return [value] + ([inner for thing in value for inner in flat(thing)] if isinstance(value, tuple) else [])


def whole(value):
    return isinstance(value, int)


def reckon(words, known):
    """The VALUE of the E or C that words begin with; its words are taken off."""
    word = words.pop(0)
    if word == "row":
        return tuple([reckon(words, known) for _ in range(int(words.pop(0)))])
    if word in ("part", "plus", "same", "less", "has", "and", "or"):
        one = reckon(words, known)
        other = reckon(words, known)
        if word == "part":
            fits = isinstance(one, tuple) and whole(other) and 0 <= other < len(one)
            return one[other] if fits else None
        if word == "plus":
            return min(9999, max(-9999, one + other)) if whole(one) and whole(other) else None
        if word == "less":
            return whole(one) and whole(other) and one < other
        if word == "has":
            return whole(other) and other in [thing for thing in flat(one) if whole(thing)]
        return {"same": one == other, "and": bool(one and other), "or": bool(one or other)}[word]
    if word in ("least", "greatest", "lot", "count", "half", "not"):
        one = reckon(words, known)
        if word == "not":
            return not one
        if word == "half":
            return (one - one % 2) // 2 if whole(one) else None
        if word == "count":
            return len(one) - one.count(None) if isinstance(one, tuple) else 0
        found = sorted({thing for thing in flat(one) if whole(thing)})
        return tuple(found) if word == "lot" else (found[0 if word == "least" else -1] if found else None)
    if word == "none":
        return None
    return int(word) if word.lstrip("-").isdigit() else known.get(word)


def cut(value):
    return value if len(flat(value)) <= 200 else None


def said_for(value):
    return value if whole(value) and 0 <= value <= 99 else 0


def conduct(block, known):
    """What a hand does by a block, one due step behind the other; what it is told is sent in."""
    for item in block:
        kind, words = item[0], list(item[1])
        if kind == "once":
            if (yield from conduct(item[1], known)):
                return True
        elif kind == "if":
            if (yield from conduct(item[2] if reckon(words, known) else item[3], known)):
                return True
        elif kind == "keep":
            known[words[0]] = cut(reckon(words[1:], known))
        elif kind == "write":
            yield ("write", cut(reckon(words, known)))
        elif kind == "say":
            yield ("say", said_for(reckon(words, known)))
            return True
        elif kind == "ask":
            box = int(words[0])
            yield ("ask", box, said_for(reckon(words[1:-1], known)))
            known[words[-1]] = yield ("answer", box)
        else:
            known[words[0]] = cut((yield ("look",)))
            while kind == "wait" and not reckon(words[1:], known):
                known[words[0]] = cut((yield ("look",)))
    return False


class Maker:
    """Makes texts of programs, and VALUES, of a seed."""

    def __init__(self, seed):
        self.any = random.Random(seed)

    def term(self, deep):
        kinds = ["number", "none", "given", "name", "name", "name"]
        kinds += ["row", "part", "part", "least", "greatest", "lot", "count", "plus", "half"] if deep else []
        kind = self.any.choice(kinds)
        if kind == "number":
            return str(self.any.choice([0, 1, 2, 3, -1, -99, 99, self.any.randint(-99, 99)]))
        if kind in ("none", "given", "name"):
            return {"none": "none", "given": self.any.choice(["mine", "me", "many"]),
                    "name": self.any.choice(["a", "b", "seen"])}[kind]
        count = self.any.randint(0, 6) if kind == "row" else {"part": 2, "plus": 2}.get(kind, 1)
        terms = [self.term(deep - 1) for _ in range(count)]
        return " ".join([kind] + ([str(count)] if kind == "row" else []) + terms)

    def test(self, deep):
        kind = self.any.choice(["same", "less", "has"] + (["not", "and", "or"] if deep else []))
        if kind in ("same", "less", "has"):
            return f"{kind} {self.term(deep)} {self.term(deep)}"
        return " ".join([kind] + [self.test(deep - 1) for _ in range(1 if kind == "not" else 2)])

    def block(self, deep, many):
        lines = []
        for _ in range(self.any.randint(0, many)):
            kind = self.any.choice(["keep", "keep", "write", "look", "wait", "ask", "if", "again"])
            name = self.any.choice(["a", "b", "seen"])
            if kind == "keep":
                lines.append(f"keep {name} {self.term(3)}")
            elif kind == "write":
                lines.append(f"write {self.term(3)}")
            elif kind == "look":
                lines.append(f"look {name}")
            elif kind == "wait":
                lines.append(f"wait {name} {self.test(1)}")
            elif kind == "ask":
                lines.append(f"ask {self.any.randint(0, 2)} {self.term(2)} {name}")
            elif deep:
                lines += self.framed(kind, deep)
        return lines

    def framed(self, kind, deep):
        if kind == "again":
            return [f"again {self.any.randint(1, 3)}", *self.ended(deep), "end"]
        other = ["else", *self.ended(deep)] if self.any.random() < 0.5 else []
        return [f"if {self.test(2)}", *self.ended(deep), *other, "end"]

    def ended(self, deep):
        say = [f"say {self.term(2)}"] if self.any.random() < 0.25 else []
        return self.block(deep - 1, 3) + say

    def program(self):
        lines = self.block(4, 7)
        return "\n".join([f"hands {self.any.randint(1, 6)}", *lines, f"say {self.term(3)}"])

    def value(self, deep):
        kind = self.any.randint(0, 3)
        if kind == 0 or not deep:
            return self.any.choice([None, self.any.randint(-5, 5), self.any.randint(-9999, 9999)])
        return tuple([self.value(deep - 1) for _ in range(self.any.randint(0, 6))])
