"""Regions of kitchens: all pairs of mean worths that they can keep up for ever."""

from mixpace.errors import Beaten
from mixpace.graphs import Graph, weigh
from mixpace.polygons import Region
from mixpace.rows import ring_mean, row_totals


def best_ring(kitchen, a, b):
    """Returns a ring whose mean (x, y) has the greatest a * x + b * y."""
    ring = _farthest_ring(Graph(kitchen), (a, b, 0))
    return _idle_ring(kitchen) if ring is None else ring


def region_of(kitchen):
    """Returns the region of the kitchen, as a region object."""
    return Region(list(_rings_around(kitchen)))


def corner_rings(kitchen):
    """Returns a list of rings whose means are the corners of the kitchen's region, in their order."""
    rings = _rings_around(kitchen)
    return [rings[corner] for corner in Region(list(rings)).corners]


def _rings_around(kitchen):
    """A dict from means to their rings, among which are all corners of the region."""
    graph = Graph(kitchen)
    idle = _idle_ring(kitchen)
    rings = {ring_mean(kitchen, idle): idle}
    held = {}
    sides = Region(list(rings)).sides
    while len(sides) > 0:
        for side in sides:
            ring = _farthest_ring(graph, side)
            if ring is None:
                held[side] = True
            else:
                rings[ring_mean(kitchen, ring)] = ring
        sides = [side for side in Region(list(rings)).sides if side not in held]
    return rings


def _farthest_ring(graph, bound):
    """The ring that goes farthest beyond the bound, or None if the bound holds."""
    a, b, _ = bound
    ring = None
    while True:
        try:
            weigh(graph, bound)
            return ring
        except Beaten as beaten:
            ring = beaten.ring
        first, second, beats = row_totals(graph.kitchen, ring)
        bound = (a * beats, b * beats, a * first + b * second)


def _idle_ring(kitchen):
    """A ring without starts; its mean (0, 0) belongs to each region."""
    return [(0,) * len(kitchen.menu)]
