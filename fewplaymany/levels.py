"""Looks at once, made by coming down levels, and rows of views (section 7)."""

from fewplaymany.errors import BadHand, BadMany, BadRow, BadWeaving, Done, NoRow
from fewplaymany.kinds import is_below, is_lot, is_weaving, is_whole
from fewplaymany.lots import lies_in, lot_of, lots_within
from fewplaymany.rows import exchanged

MOST_HANDS = 5


class Levels:
    """A stair on which hands come down; `looking` tells of each whether its next is a look."""

    def __init__(self, many):
        check_many(many)
        self.many = many
        self.levels = (None,) * many
        self.views = (None,) * many
        self.run = ()
        self.looking = (False,) * many

    def __eq__(self, other):
        return isinstance(other, Levels) and self.many == other.many and self.run == other.run

    def __len__(self):
        return len(self.run)

    def copy(self):
        """An independent one, alike."""
        other = Levels(self.many)
        other.levels = self.levels
        other.views = self.views
        other.run = self.run
        other.looking = self.looking
        return other

    def next(self, hand):
        """The hand's next step, None if it has a view."""
        if not is_below(hand, self.many):
            raise BadHand(hand)
        if self.views[hand] is not None:
            return None
        if self.looking[hand]:
            return ("look",)
        level = self.levels[hand]
        return ("write", self.many if level is None else level - 1)

    def step(self, hand):
        """Does the hand's next step, and returns it."""
        due = self.next(hand)
        if due is None:
            raise Done(hand)
        if due[0] == "write":
            step = (hand, "write", due[1])
            self.levels = exchanged(self.levels, hand, due[1])
        else:
            step = (hand, "look", self.levels)
            self.views = exchanged(self.views, hand, self.view_from(hand))
        self.looking = exchanged(self.looking, hand, due[0] == "write")
        self.run = self.run + (step,)
        return step

    def weave(self, weaving):
        """Does a step of each hand in sequence, and returns those done."""
        if not is_weaving(weaving, self.many):
            raise BadWeaving(weaving)
        return tuple([self.step(hand) for hand in weaving if self.next(hand) is not None])

    def view_from(self, hand):
        """The view that the hand has if it looks now, None if it goes on."""
        own = self.levels[hand]
        seen = tuple([at for at, level in enumerate(self.levels) if level is not None and level <= own])
        return seen if len(seen) >= own else None


def check_many(many):
    """Raises BadMany unless so many hands may come down."""
    if not is_whole(many) or not 1 <= many <= MOST_HANDS:
        raise BadMany(many)


def is_at_once(many, value):
    """Whether value is a row of views."""
    check_many(many)
    if not isinstance(value, tuple) or len(value) != many:
        return False
    if not all([view is None or is_view(many, hand, view) for hand, view in enumerate(value)]):
        return False
    pairs = [(hand, view) for hand, view in enumerate(value) if view is not None]
    return len(pairs) > 0 and all([fit(one, other) for one in pairs for other in pairs])


def is_view(many, hand, value):
    """Whether value is a lot of hands with this hand among them."""
    return is_lot(value) and hand in value and value[-1] < many


def fit(one, other):
    """Whether two (hand, view) may stand in one row, as the one meets the other."""
    view, beside = one[1], other[1]
    if other[0] in view:
        return lies_in(beside, view)
    return lies_in(view, beside)


def is_whole_row(many, value):
    """Whether value is a row of views without None."""
    return is_at_once(many, value) and None not in value


def weaving_to(many, row):
    """A weaving of fresh Levels behind which views are row."""
    if not is_at_once(many, row):
        raise BadRow(row)
    weaving = []
    came = ()
    views = sorted(set([view for view in row if view is not None]))
    for view in sorted(views, key=len):
        weaving.extend(weaving_down(many, row, came, view))
        came = view
    return tuple(weaving)


def weaving_down(many, row, came, view):
    """The part of weaving_to by which the hands of a view come behind those that came.

    They come down side by side, to the level at which they are enough. Who is to get no
    view stops there ahead of its look.
    """
    hands = [hand for hand in view if hand not in came]
    return hands * (2 * (many - len(view)) + 1) + [hand for hand in hands if row[hand] is not None]


def shows_weaving_to(many, row, value):
    """Whether value is such a weaving as weaving_to tells."""
    if not is_at_once(many, row):
        raise BadRow(row)
    if not is_weaving(value, many):
        return False
    levels = Levels(many)
    levels.weave(value)
    return levels.views == row


def every_row(many):
    """All rows of views without None, ascending."""
    check_many(many)
    return tuple(sorted([row_of(many, views) for views in ways_down(many, ())]))


def ways_down(many, came):
    """All ways in which hands come behind those that came: each a tuple of views, as they grow."""
    left = [hand for hand in range(many) if hand not in came]
    if not left:
        return [()]
    found = []
    for lot in lots_within(left):
        view = lot_of([*came, *lot])
        found.extend([(view,) + views for views in ways_down(many, view)])
    return found


def row_of(many, views):
    """The row in which each hand has the first one of these views in which it stands."""
    return tuple([[view for view in views if hand in view][0] for hand in range(many)])


def row_at(many, number):
    """The row without None of this number."""
    rows = every_row(many)
    if not is_below(number, len(rows)):
        raise NoRow(number)
    return rows[number]


def number_of(many, row):
    """The number of a row without None."""
    if not is_whole_row(many, row):
        raise BadRow(row)
    return every_row(many).index(row)


def chain(many, one, other):
    """Rows without None from one to other, of which neighbours differ in one view."""
    check_ends(many, one, other)
    return tuple(way_to_all(many, one) + way_to_all(many, other)[-2::-1])


def way_to_all(many, row):
    """Rows from this one to the one in which all see all, of which neighbours differ in one view.

    One by one the hands come alone first, and then, from the last one on, with all that
    come behind.
    """
    hands = sorted([(len(view), hand) for hand, view in enumerate(row)])
    order = [hand for size, hand in hands]
    rows = [row]
    for at, hand in enumerate(order):
        rows.append(exchanged(rows[-1], hand, lot_of(order[:at + 1])))
    for hand in order[::-1]:
        rows.append(exchanged(rows[-1], hand, lot_of(order)))
    return [other for at, other in enumerate(rows) if at == 0 or other != rows[at - 1]]


def check_ends(many, one, other):
    """Raises BadRow unless both are rows of views without None."""
    if not is_whole_row(many, one):
        raise BadRow(one)
    if not is_whole_row(many, other):
        raise BadRow(other)


def shows_chain(many, one, other, value):
    """Whether value is such a tuple of rows as chain tells."""
    check_ends(many, one, other)
    if not isinstance(value, tuple) or not all([is_whole_row(many, row) for row in value]):
        return False
    if value[:1] != (one,) or value[-1:] != (other,):
        return False
    return all([unlike(row, beside) == 1 for row, beside in zip(value, value[1:])])


def unlike(row, beside):
    """In how many views two rows are unlike."""
    return len([hand for hand, view in enumerate(row) if view != beside[hand]])
