"""Standings: what the dishes that have been started ask for from the present beat on."""

from mixpace.errors import NoDish, NotEnough


def empty_standing(kitchen):
    """Returns the standing in which all numbers are 0."""
    return (_zeros(len(kitchen.tools)),) * kitchen.horizon


def after_start(kitchen, standing, index):
    """Returns the standing after a start of the dish, or raises NoDish or NotEnough."""
    menu = kitchen.menu
    if not 0 <= index < len(menu):
        raise NoDish(index)
    lack = _lack(kitchen, standing, menu[index])
    if lack is not None:
        raise NotEnough(lack[0], lack[1])
    return _with_needs(kitchen, standing, menu[index])


def after_beat(standing):
    """Returns the standing after a beat."""
    return (*standing[1:], _zeros(len(standing[0])))


def moves(kitchen, standing):
    """Yields a pair (index, standing after the start) for each dish that fits, then (None, standing after a beat)."""
    for index, dish in enumerate(kitchen.menu):
        if _lack(kitchen, standing, dish) is None:
            yield (index, _with_needs(kitchen, standing, dish))
    yield (None, after_beat(standing))


def all_standings(kitchen):
    """Returns a list of all reachable standings."""
    start = empty_standing(kitchen)
    found = {start: True}
    waiting = [start]
    while len(waiting) > 0:
        standing = waiting.pop()
        for _, after in moves(kitchen, standing):
            if after not in found:
                found[after] = True
                waiting.append(after)
    return list(found)


def _zeros(many):
    return (0,) * many


def _lack(kitchen, standing, dish):
    """The beat and the tool of the first need for which the tool is not enough, or None if the dish fits."""
    tools = kitchen.tools
    for beat, tool, amount in dish.needs:
        if standing[beat][tools.index(tool)] + amount > kitchen.number_of(tool):
            return (beat, tool)
    return None


def _with_needs(kitchen, standing, dish):
    """The standing with the needs of the dish added."""
    tools = kitchen.tools
    rows = [list(row) for row in standing]
    for beat, tool, amount in dish.needs:
        rows[beat][tools.index(tool)] += amount
    return tuple([tuple(row) for row in rows])
