"""Dishes: what they bring, and which tools they need at which beats."""

from mixpace.errors import InvalidDish
from mixpace.names import is_name


class Dish:
    """A dish with a name, two worths and its needs `(beat, tool, amount)`. It never changes."""

    def __init__(self, name, needs, *, first=0, second=0):
        _check_dish(name, needs)
        self.name = name
        self.first = first
        self.second = second
        self.needs = _merged(needs)

    @property
    def length(self):
        """The last beat plus one."""
        return self.needs[-1][0] + 1

    @property
    def worths(self):
        """Both worths, as a tuple."""
        return (self.first, self.second)

    def __lshift__(self, other):
        return self._with_needs([(beat + other, tool, amount) for beat, tool, amount in self.needs])

    def __or__(self, other):
        return Dish(
            self.name,
            [*self.needs, *other.needs],
            first=self.first + other.first,
            second=self.second + other.second,
        )

    def __invert__(self):
        last = self.length - 1
        return self._with_needs([(last - beat, tool, amount) for beat, tool, amount in self.needs])

    def __eq__(self, other):
        return (
            isinstance(other, Dish)
            and self.name == other.name
            and self.first == other.first
            and self.second == other.second
            and self.needs == other.needs
        )

    def _with_needs(self, needs):
        return Dish(self.name, needs, first=self.first, second=self.second)


def _check_dish(name, needs):
    if not is_name(name):
        raise InvalidDish("the name of a dish has 1 to 12 letters from a to z")
    if len(needs) == 0:
        raise InvalidDish("a dish has at least one need")
    # Before they are merged: an invalid amount could vanish in a sum.
    for beat, tool, amount in needs:
        if beat < 0 or amount < 1 or not is_name(tool):
            raise InvalidDish("a need has a beat from 0, the name of a tool and an amount from 1")


def _merged(needs):
    """The needs in ascending order, those with the same beat and tool added up."""
    amounts = {}
    for beat, tool, amount in needs:
        amounts[(beat, tool)] = amounts.get((beat, tool), 0) + amount
    # Beats and tools are sorted one by one: beside the order of regions, LANGUAGE.md (L5) lets no tuples be sorted.
    beats = sorted(set([int(need[0]) for need in needs]))
    tools = sorted(set([str(need[1]) for need in needs]))
    return tuple([(beat, tool, amounts[(beat, tool)]) for beat in beats for tool in tools if (beat, tool) in amounts])
