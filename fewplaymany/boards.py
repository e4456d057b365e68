"""What players write on their boards, and what they see there (section 9).

A board is (writes, doors): writes has for each hand None or (number, VALUE), doors is an
ascending tuple of (hand, door, level, VALUE). A player that wrote nothing yet shows None.
"""

from fewplaymany.rows import exchanged


def empty_board(many):
    """The board of a player that wrote nothing yet, for so many hands."""
    return ((None,) * many, ())


def with_write(board, hand, number, value):
    """The board with this write as the newest one of the hand."""
    writes, doors = board
    return (exchanged(writes, hand, (number, value)), doors)


def with_door(board, hand, door, level, value):
    """The board with this level at a door."""
    writes, doors = board
    others = [row for row in doors if row[:2] != (hand, door)]
    # No two rows are of one door, so VALUES are never asked which one is less.
    return (writes, tuple(sorted([*others, (hand, door, level, value)])))


def written(board, hand):
    """The number of the hand's newest write on the board, 0 without one."""
    write = board[0][hand]
    return 0 if write is None else write[0]


def row_at_door(board, hand, door):
    """The row of a door on the board, None without one, or if the board shows nothing."""
    if board is None:
        return None
    for row in board[1]:
        if row[:2] == (hand, door):
            return row
    return None


def row_at_level_one(board):
    """The row of the door at which the board shows level 1, None without one."""
    for row in board[1]:
        if row[2] == 1:
            return row
    return None


def rows_at_level(boards, hand, door, level):
    """(player, VALUE) for all whose boards show this level at a door, in sequence of players."""
    found = []
    for player, board in enumerate(boards):
        row = row_at_door(board, hand, door)
        if row is not None and row[2] == level:
            found.append((player, row[3]))
    return found


def newest(boards, many):
    """For each hand the VALUE of the write with the greatest number that any board shows, or None."""
    return tuple([newest_of(boards, hand) for hand in range(many)])


def newest_of(boards, hand):
    """As newest, of one hand."""
    number, value = 0, None
    for board in boards:
        if board is not None and written(board, hand) > number:
            number, value = board[0][hand]
    return value
