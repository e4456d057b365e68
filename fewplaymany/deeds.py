"""The lines of deeds in journals and on desks (section 17)."""

from fewplaymany.kinds import integer_in

DEEDS = ("step", "forget", "stop", "go", "watch", "unwatch")


def deed_in(line):
    """The deed, (word, numbers), of a line; None if it has no such form."""
    words = line.split(" ")
    numbers = tuple([integer_in(word) for word in words[1:]])
    if None in numbers:
        return None
    if words[0] == "weave" or (words[0] in DEEDS and len(numbers) == 1):
        return (words[0], numbers)
    return None


def deed_text(deed):
    """The line of a deed."""
    word, numbers = deed
    return " ".join([word, *[str(number) for number in numbers]])


def does_deed(bench, deed):
    """Does a deed at a bench."""
    word, numbers = deed
    if word == "weave":
        bench.weave(numbers)
    elif word == "step":
        bench.step(numbers[0])
    elif word == "forget":
        bench.forget(numbers[0])
    elif word == "stop":
        bench.stop(numbers[0])
    elif word == "go":
        bench.go(numbers[0])
    elif word == "watch":
        bench.watch(numbers[0])
    else:
        bench.unwatch(numbers[0])
