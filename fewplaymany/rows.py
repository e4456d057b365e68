"""Rows: tuples with one thing for each hand."""


def exchanged(row, at, thing):
    """The row with this thing at one place."""
    return row[:at] + (thing,) + row[at + 1:]
