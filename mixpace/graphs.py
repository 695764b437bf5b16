"""The reachable standings of a kitchen as a graph, and the walks in it that go farthest under a bound.

A walk is a sequence of moves. Under a bound (a, b, c) a start counts a * first + b * second, and a beat counts -c.
"""

from mixpace.errors import Beaten
from mixpace.standings import all_standings, empty_standing, moves


class Graph:
    """The reachable standings of a kitchen, known by their places in a list, and the steps between them.

    A step is a pair of the index of the dish that is started, or None for a beat, and the place it leads to.
    """

    def __init__(self, kitchen):
        self.kitchen = kitchen
        self.standings = all_standings(kitchen)
        places = {standing: place for place, standing in enumerate(self.standings)}
        self.steps = [_steps(kitchen, standing, places) for standing in self.standings]
        self.empty = places[empty_standing(kitchen)]


def weigh(graph, bound):
    """Returns the prices of all places and the steps by which they are reached, or raises Beaten.

    The step of a place without a price is (None, None).
    """
    counts = _counts(graph.kitchen, bound)
    prices = [0] * len(graph.steps)
    choices = [(None, None)] * len(graph.steps)
    while _raise_prices(graph.steps, counts, prices, choices):
        # Each step was chosen because it raised a price, so a circle of them counts more than 0. As long as there
        # is none, the prices are those of walks without a circle, and cannot be raised for ever.
        circle = _circle(choices)
        if len(circle) > 0:
            raise Beaten(_ring(graph.kitchen, circle))
    return prices, choices


def row_from(graph, choices, place):
    """The row of the walk that follows the chosen steps from this place to their end."""
    indexes = []
    index, place = choices[place]
    while place is not None:
        indexes.append(index)
        index, place = choices[place]
    return _row(graph.kitchen, indexes)


def _steps(kitchen, standing, places):
    return [(index, places[after]) for index, after in moves(kitchen, standing)]


def _counts(kitchen, bound):
    """What a start of each dish counts and, under None, what a beat counts."""
    a, b, c = bound
    counts = {index: a * dish.first + b * dish.second for index, dish in enumerate(kitchen.menu)}
    counts[None] = -c
    return counts


def _raise_prices(steps, counts, prices, choices):
    """Raises each price that is less than a step counts with the price behind it; tells whether there was one."""
    raised = False
    # Most moves lead to standings that were found later. From the last one on, a round gets prices across many moves.
    for place in reversed(range(len(steps))):
        for index, after in steps[place]:
            price = counts[index] + prices[after]
            if price > prices[place]:
                prices[place] = price
                choices[place] = (index, after)
                raised = True
    return raised


def _circle(choices):
    """The indexes of the steps of a circle of chosen steps, or an empty list if there is no circle."""
    walks = {}
    for begin in range(len(choices)):
        place = begin
        while place is not None and place not in walks:
            walks[place] = begin
            place = choices[place][1]
        if place is not None and walks[place] == begin:
            return _circle_through(choices, place)
    return []


def _circle_through(choices, place):
    index, after = choices[place]
    indexes = [index]
    while after != place:
        index, after = choices[after]
        indexes.append(index)
    return indexes


def _ring(kitchen, circle):
    """The ring of a circle of steps. There is a beat in each circle, as a start only adds to a standing."""
    beat = circle.index(None)
    return _row(kitchen, circle[beat + 1:] + circle[:beat])


def _row(kitchen, indexes):
    """The row in which these dishes are started, where None lets a beat pass."""
    row = []
    window = [0] * len(kitchen.menu)
    for index in indexes:
        if index is None:
            row.append(tuple(window))
            window = [0] * len(kitchen.menu)
        else:
            window[index] += 1
    row.append(tuple(window))
    return row
