"""Wishes: how a kitchen keeps a mix, and what it lacks for one."""

from math import gcd, lcm

from mixpace.mixes import check_mix
from mixpace.polygons import Region
from mixpace.regions import corner_rings, region_of
from mixpace.rows import ring_mean


def shares(kitchen, mix):
    """Returns pairs (ring, times) that together make the mix, or raises InvalidMix or Barred."""
    rings = corner_rings(kitchen)
    region = Region([ring_mean(kitchen, ring) for ring in rings])
    # A weight counts beats, and each time that a ring is played lasts as many beats as it has windows.
    parts = [(rings[index], weight) for index, weight in region.weights(mix)]
    return _in_lowest_times(parts)


def plan(kitchen, mix, blocks):
    """Yields the windows of the first blocks of the plan for the mix, or raises InvalidMix or Barred."""
    pairs = shares(kitchen, mix)
    pause = [(0,) * len(kitchen.menu)] * (kitchen.horizon - 1)
    for block in range(1, blocks + 1):
        for ring, times in pairs:
            for _ in range(block * times):
                yield from ring
            yield from pause


def parting_mix(region, other):
    """Returns the first corner of the region that does not belong to the other one, or None."""
    for corner in region.corners:
        if corner not in other:
            return corner
    return None


def least_number(kitchen, tool, mix, *, most=3):
    """Returns the least number of the tool, up to `most`, with which the kitchen keeps the mix, or None."""
    kitchen.number_of(tool)
    check_mix(mix)
    if most < 0 or not _keeps(kitchen, tool, most, mix):
        return None
    # As more of a tool never makes a region smaller, half of the numbers can be left out each time.
    low = 0
    high = most
    while low < high:
        middle = (low + high) // 2
        if _keeps(kitchen, tool, middle, mix):
            high = middle
        else:
            low = middle + 1
    return low


def region_while_closed(kitchen, tools):
    """Returns the region of the kitchen while all these tools are closed, or raises UnknownTool."""
    for tool in tools:
        kitchen.number_of(tool)
    return _region_without(kitchen, [tool for tool in kitchen.tools if tool in tools])


def _in_lowest_times(parts):
    """Turns the weights of the rings into numbers of times without a common divisor."""
    beats = 1
    for ring, _ in parts:
        beats = lcm(beats, len(ring))
    pairs = [(ring, weight * (beats // len(ring))) for ring, weight in parts]
    divisor = 0
    for _, times in pairs:
        divisor = gcd(divisor, times)
    return [(ring, times // divisor) for ring, times in pairs]


def _keeps(kitchen, tool, number, mix):
    return mix in region_of(kitchen.with_number(tool, number))


def _region_without(kitchen, tools):
    """The region while these tools, of which none occurs twice, are closed one within the other."""
    if len(tools) == 0:
        return region_of(kitchen)
    with kitchen.closed(tools[0]) as held:
        return _region_without(held, tools[1:])
