"""Kitchens: tools with their numbers, and a menu of dishes."""

from mixpace.errors import InvalidKitchen, UnknownTool
from mixpace.names import is_name


class Closing:
    """One with-block in which a tool of a kitchen is closed."""

    def __init__(self, kitchen, tool):
        self.kitchen = kitchen
        self.tool = tool
        self.before = {}

    def __enter__(self):
        kitchen = self.kitchen
        self.before = kitchen._numbers
        kitchen._numbers = _changed(kitchen._numbers, self.tool, 0)
        return kitchen

    def __exit__(self, kind, value, trace):
        kitchen = self.kitchen
        kitchen._numbers = self.before


class Kitchen:
    """A kitchen: pairs (name, number) of tools in a fixed order, and a list of dishes."""

    def __init__(self, tools, menu):
        _check_tools(tools)
        # This dict is replaced and never modified: a Closing keeps the one from before its block.
        self._numbers = dict(tools)
        self._menu = list(menu)
        _check_menu(self._menu, self._numbers)

    @property
    def tools(self):
        """The names of the tools, as a tuple."""
        return tuple(self._numbers)

    @property
    def numbers(self):
        """The present numbers of the tools, as a tuple."""
        return tuple(self._numbers.values())

    @property
    def menu(self):
        """The dishes, as a new list."""
        return list(self._menu)

    @property
    def horizon(self):
        """The greatest length of a dish, or 1."""
        # `int` says that these are numbers, as LANGUAGE.md (L5) asks for beside the order of regions.
        return max([int(dish.length) for dish in self._menu], default=1)

    def number_of(self, tool):
        """Returns the present number of the tool."""
        self._check_tool(tool)
        return self._numbers[tool]

    def with_number(self, tool, number):
        """Returns a new kitchen in which the tool has this number."""
        self._check_tool(tool)
        numbers = _changed(self._numbers, tool, number)
        return Kitchen(list(numbers.items()), self._menu)

    def with_dish(self, dish):
        """Returns a new kitchen with the dish at the end of the menu."""
        return Kitchen(list(self._numbers.items()), [*self._menu, dish])

    def closed(self, tool):
        """Returns an object for one with-block in which the number of the tool is 0."""
        self._check_tool(tool)
        return Closing(self, tool)

    def _check_tool(self, tool):
        if tool not in self._numbers:
            raise UnknownTool(tool)


def ask_closed(kitchen, tool, question):
    """Returns what the question returns for the kitchen while the tool is closed."""
    with kitchen.closed(tool) as held:
        return question(held)


def _changed(numbers, tool, number):
    """A new dict of numbers in which the tool has this number."""
    changed = dict(numbers)
    changed[tool] = number
    return changed


def _check_tools(tools):
    names = {}
    for name, number in tools:
        if not is_name(name) or name in names or number < 0:
            raise InvalidKitchen("a tool has a name of its own and a number from 0")
        names[name] = True


def _check_menu(menu, numbers):
    for dish in menu:
        for need in dish.needs:
            tool = need[1]
            if tool not in numbers:
                raise UnknownTool(tool)
