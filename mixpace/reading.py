"""Dishes as lines: `NAME FIRST SECOND NEED ..`."""

from mixpace.dishes import Dish
from mixpace.errors import InvalidLine
from mixpace.names import is_name

DIGITS = "0123456789"
FIRST_NEED = 3


def read_dish(line):
    """Returns the dish that the line writes, or raises InvalidLine."""
    words = line.split(" ")
    for at, word in enumerate(words):
        if not _is_valid(word, at):
            raise InvalidLine(at)
    if len(words) <= FIRST_NEED:
        raise InvalidLine(len(words))
    needs = [_need_of(word) for word in words[FIRST_NEED:]]
    return Dish(words[0], needs, first=int(words[1]), second=int(words[2]))


def write_dish(dish):
    """Returns the line of the dish."""
    words = [dish.name, str(dish.first), str(dish.second)]
    for beat, tool, amount in dish.needs:
        words.append(f"{tool}@{beat}" if amount == 1 else f"{tool}@{beat}x{amount}")
    return " ".join(words)


def _is_valid(word, at):
    """Tells whether the word may stand at this index of a line."""
    if at == 0:
        return is_name(word)
    if at < FIRST_NEED:
        return _is_worth(word)
    return _is_need(word)


def _is_number(text):
    if text == "0":
        return True
    return text != "" and text[0] != "0" and all([digit in DIGITS for digit in text])


def _is_worth(word):
    if word.startswith("-"):
        return word != "-0" and _is_number(word[1:])
    return _is_number(word)


def _is_need(word):
    tool, beat, amount = _need_parts(word)
    return is_name(tool) and _is_number(beat) and _is_number(amount) and amount != "0"


def _need_of(word):
    tool, beat, amount = _need_parts(word)
    return (int(beat), tool, int(amount))


def _need_parts(word):
    """The tool, the beat and the amount as texts; a missing beat is empty, which is no number."""
    tool, _, place = word.partition("@")
    beat, times, amount = place.partition("x")
    if times == "":
        amount = "1"
    return tool, beat, amount
