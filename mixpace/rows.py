"""Rows: how many of each dish are started in each beat; and rings, which are rows that are repeated."""

from mixpace.errors import InvalidRow
from mixpace.mixes import lowest


def first_lack(kitchen, row):
    """Returns None if the row is legal, otherwise (beat, tool) of the first lack, or raises InvalidRow."""
    _check_row(kitchen, row)
    # The needs of the last window may reach over the end of the row.
    return _first_excess(kitchen, _uses(kitchen, row, len(row) + kitchen.horizon - 1))


def row_totals(kitchen, row):
    """Returns the totals of the row, or raises InvalidRow."""
    _check_row(kitchen, row)
    return _totals(kitchen, row)


def stretch_totals(kitchen, row, begin, end):
    """Returns the totals of the stretch row[begin:end], or raises InvalidRow."""
    _check_row(kitchen, row)
    return _totals(kitchen, row[begin:end])


def ring_lack(kitchen, ring):
    """Returns None if the ring is legal, otherwise (beat, tool) of the first lack, or raises InvalidRow."""
    _check_ring(kitchen, ring)
    return _first_excess(kitchen, _uses(kitchen, ring, len(ring)))


def ring_mean(kitchen, ring):
    """Returns the mean of the ring, or raises InvalidRow."""
    _check_ring(kitchen, ring)
    return lowest(_totals(kitchen, ring))


def _check_row(kitchen, row):
    dishes = len(kitchen.menu)
    for at, window in enumerate(row):
        if len(window) != dishes or any([many < 0 for many in window]):
            raise InvalidRow(at)


def _check_ring(kitchen, ring):
    if len(ring) == 0:
        raise InvalidRow(0)
    _check_row(kitchen, ring)


def _totals(kitchen, row):
    menu = kitchen.menu
    first = 0
    second = 0
    for window in row:
        for dish, many in zip(menu, window):
            first += many * dish.first
            second += many * dish.second
    return (first, second, len(row))


def _uses(kitchen, row, beats):
    """A list of the use of each tool for each of so many beats; what comes later counts from beat 0 on again."""
    menu = kitchen.menu
    tools = kitchen.tools
    uses = [[0] * len(tools) for _ in range(beats)]
    for at, window in enumerate(row):
        for dish, many in zip(menu, window):
            if many > 0:
                for beat, tool, amount in dish.needs:
                    uses[(at + beat) % beats][tools.index(tool)] += many * amount
    return uses


def _first_excess(kitchen, uses):
    """The first beat, and in it the first tool, of which more is used than there is, or None."""
    tools = kitchen.tools
    numbers = kitchen.numbers
    for beat, use in enumerate(uses):
        for tool, used, number in zip(tools, use, numbers):
            if used > number:
                return (beat, tool)
    return None
