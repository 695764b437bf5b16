"""Mixes: tuples (first, second, beats) that stand for two mean worths per beat."""

from math import gcd

from mixpace.errors import InvalidMix


def lowest(mix):
    """Returns the mix in lowest terms, or raises InvalidMix."""
    check_mix(mix)
    first, second, beats = mix
    divisor = gcd(first, second, beats)
    return (first // divisor, second // divisor, beats // divisor)


def check_mix(mix):
    """Raises InvalidMix if the mix has fewer than 1 beats."""
    if mix[2] < 1:
        raise InvalidMix(mix)
