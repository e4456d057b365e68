"""LOOKs that are made of reads of single boards (section 6)."""


class Looking:
    """A LOOK of all boards, as far as a hand has made it.

    A board shows (number, VALUE, LOOK). `reads` are (place, what the board showed), one for
    each read, place being its number in the run. `look` is the LOOK as soon as it stands,
    None before. `lender` is (board, number) then, for the write that brought it along,
    None if two rounds were alike.
    """

    def __init__(self, many):
        self.many = many
        self.reads = []
        self.look = None
        self.lender = None

    def copy(self):
        """A Looking that stands as this one does, by itself."""
        other = Looking(self.many)
        other.reads = list(self.reads)
        other.look = self.look
        other.lender = self.lender
        return other

    def next_board(self):
        """The number of the board that is read next."""
        return len(self.reads) % self.many

    def first_place(self):
        """The number of its first read in the run."""
        return self.reads[0][0]

    def round_place(self):
        """The number, in the run, of the last read of the last round but one."""
        return self.reads[-self.many - 1][0]

    def takes(self, place, shown):
        """Takes what the next board shows, and settles the LOOK if that is enough."""
        self.reads.append((place, shown))
        if self.next_board() == 0 and len(self.reads) > self.many:
            self.settles()

    def settles(self):
        """Settles the LOOK, behind a round, if it stands now."""
        newest = self.read_rounds()[-1]
        moves = self.moves()
        if not any([moved[-1] for moved in moves]):
            self.look = tuple([shown[:2] for shown in newest])
            return
        for board, moved in enumerate(moves):
            if moved.count(True) >= 2:
                self.look = newest[board][2]
                self.lender = (board, newest[board][0])
                return

    def read_rounds(self):
        """What was read, round by round."""
        shown = [read[1] for read in self.reads]
        return [shown[at:at + self.many] for at in range(0, len(shown), self.many)]

    def moves(self):
        """For each board, of each round but the first, whether its number was not as ahead of it."""
        rounds = self.read_rounds()
        pairs = list(zip(rounds, rounds[1:]))
        return [[one[board][0] != other[board][0] for one, other in pairs] for board in range(self.many)]
