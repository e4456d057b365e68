"""Searches for one word for each of many places, so that each row of places is right together."""

FIRST_TRIES = 100

# Weights divide sizes, and both are integers.
FINE = 100000


class Search:
    """So many places, and rows of places, each with the ends within one of which its words have to lie.

    Spans have for each place the words that may stand there yet. They and ends are
    integers, a bit for each word. `rows` are (places, ends). `weights` grow where rows failed,
    so that places which are hard to fill come first.
    """

    def __init__(self, count, words, rows):
        self.rows = rows
        self.full = (1 << words) - 1
        self.sizes = [0]
        for _ in range(words):
            self.sizes = self.sizes + [size + 1 for size in self.sizes]
        self.touching = [[] for _ in range(count)]
        for number, (places, ends) in enumerate(rows):
            for place in places:
                self.touching[place].append(number)
        self.weights = [1] * count

    def found(self):
        """The spans of one word each with which all rows are right, None if there are none."""
        spans = [self.full] * len(self.weights)
        if not self.narrows(spans, list(range(len(self.rows)))):
            return None
        # Who begins anew from time to time, with other places first, is seldom long astray.
        tries = FIRST_TRIES
        over, settled = self.settled(spans, tries)
        while not over:
            tries = 2 * tries
            over, settled = self.settled(spans, tries)
        return settled

    def narrows(self, spans, waiting):
        """Takes off spans what the rows that wait do not let stand, and tells whether all have words left."""
        queued = set(waiting)
        while waiting:
            number = waiting.pop()
            queued.discard(number)
            let = self.let_by(spans, number)
            places = self.rows[number][0]
            for place in places:
                left = spans[place] & let
                if left == 0:
                    self.weighs(places)
                    return False
                if left != spans[place]:
                    spans[place] = left
                    for other in self.touching[place]:
                        if other != number and other not in queued:
                            queued.add(other)
                            waiting.append(other)
        return True

    def let_by(self, spans, number):
        """All words of those ends of a row that can hold a word of each of its places."""
        places, ends = self.rows[number]
        let = 0
        for end in ends:
            if all([spans[place] & end for place in places]):
                let = let | end
        return let

    def weighs(self, places):
        """Makes the places of a row that failed heavier."""
        for place in places:
            self.weights[place] += 1

    def settled(self, spans, tries):
        """(whether so many tries are enough, what found tells, from these spans on)."""
        ahead = []
        while True:
            place = self.place_to_try(spans)
            if place is None:
                return True, spans
            ahead.append((spans, place))
            tries -= 1
            spans = self.tried(spans, place, lowest(spans[place]))
            while spans is None:
                if not ahead:
                    return True, None
                if tries < 0:
                    return False, None
                tries -= 1
                before, place = ahead.pop()
                spans = self.tried(before, place, before[place] - lowest(before[place]))

    def tried(self, spans, place, words):
        """The spans, narrowed, with these words at a place; None if some place has none left."""
        narrowed = list(spans)
        narrowed[place] = words
        return narrowed if self.narrows(narrowed, list(self.touching[place])) else None

    def place_to_try(self, spans):
        """The place to be settled next, None if each has one word."""
        best, least = None, None
        for place, span in enumerate(spans):
            size = self.sizes[span]
            if size > 1:
                burden = size * FINE // self.weights[place]
                if least is None or burden < least:
                    best, least = place, burden
        return best


def lowest(span):
    """The first word of a span, as a span."""
    return span & -span
