"""Point [8]: whatever is asked of a kitchen uses its present numbers, and a block leaves no trace behind."""

import unittest

from mixpace.dishes import Dish
from mixpace.errors import Barred, Beaten, InvalidMix, InvalidRow, NoDish, NotEnough, UnknownTool
from mixpace.kitchens import Kitchen, ask_closed
from mixpace.papers import paper, tight_row
from mixpace.regions import best_ring, corner_rings, region_of
from mixpace.rows import first_lack, ring_lack
from mixpace.services import Service, serve_closed
from mixpace.standings import after_start, all_standings, empty_standing, moves
from mixpace.wishes import least_number, plan, region_while_closed, shares
from tests.samples import GREAT, PIE, TART, error_of, random_kitchens

SOUP = Dish("soup", [(0, "pot", 1), (1, "pot", 1)], second=2)
FRY = Dish("fry", [(0, "stove", 1), (1, "oven", 1)], first=1, second=-3)


def three_tools():
    return Kitchen([("oven", 1), ("pot", 2), ("stove", 1)], [PIE, SOUP, FRY, TART])


def served(kitchen):
    service = Service(kitchen)
    for index in range(len(kitchen.menu)):
        for _ in range(3):
            try:
                service.start(index)
            except NotEnough:
                service.wait()
    return (service.standing, service.row, service.totals)


def served_closed(kitchen):
    service = Service(kitchen)
    tool = kitchen.tools[-1]
    return (serve_closed(service, tool, list(range(len(kitchen.menu))) * 2), service.row)


def kept(kitchen):
    """Some mix that the kitchen keeps."""
    corners = region_of(kitchen).corners
    return (corners[0][0], corners[0][1], 3 * corners[0][2])


QUESTIONS = {
    "standings": lambda held: sorted(all_standings(held)),
    "moves": lambda held: list(moves(held, empty_standing(held))),
    "paper": lambda held: paper(held, (1, 1, 100)),
    "tight row": lambda held: tight_row(held, (2, 1, 40)),
    "best ring": lambda held: best_ring(held, 1, 3),
    "region": lambda held: region_of(held),
    "rings": lambda held: corner_rings(held),
    "shares": lambda held: shares(held, kept(held)),
    "plan": lambda held: list(plan(held, kept(held), 2)),
    "service": served,
    "served closed": served_closed,
    "least number": lambda held: least_number(held, held.tools[0], kept(held), most=1),
    "region while closed": lambda held: region_while_closed(held, [held.tools[-1]]),
}
# What raises an error while the oven of `three_tools` is closed.
WRONG_QUESTIONS = [
    (Beaten, lambda held: paper(held, (0, 1, 1))),
    (Beaten, lambda held: tight_row(held, (-1, 0, -1))),
    (Barred, lambda held: shares(held, (1, 1, 1))),
    (InvalidMix, lambda held: shares(held, (1, 1, 0))),
    (Barred, lambda held: list(plan(held, (3, 1, 2), 0))),
    (InvalidMix, lambda held: least_number(held, "oven", (0, 0, 0))),
    (UnknownTool, lambda held: least_number(held, "pan", (0, 0, 0))),
    (UnknownTool, lambda held: region_while_closed(held, ["stove", "pot", "pan"])),
    (NotEnough, lambda held: Service(held).start(0)),
    (NoDish, lambda held: Service(held).start(4)),
    (NoDish, lambda held: serve_closed(Service(held), "pot", [1, 0, 9])),
    (UnknownTool, lambda held: serve_closed(Service(held), "pan", [])),
    (NotEnough, lambda held: after_start(held, empty_standing(held), 3)),
    (InvalidRow, lambda held: first_lack(held, [(1, 2)])),
    (ZeroDivisionError, lambda held: 1 // held.number_of("oven")),
]


class ClosedQuestionsTest(unittest.TestCase):
    def check(self, kitchen, tool):
        """A kitchen with a closed tool answers as one that has none of the tool."""
        numbers = kitchen.numbers
        without = kitchen.with_number(tool, 0)
        for name, question in QUESTIONS.items():
            with self.subTest(name):
                before = question(kitchen)
                wanted = question(without)
                self.assertEqual(ask_closed(kitchen, tool, question), wanted)
                self.assertEqual(kitchen.numbers, numbers)
                with kitchen.closed(tool) as held:
                    self.assertEqual(question(held), wanted)
                    self.assertEqual(question(held), wanted)
                    self.assertEqual(held.numbers, without.numbers)
                self.assertEqual(kitchen.numbers, numbers)
                self.assertEqual(question(kitchen), before)

    def test_three_tools(self):
        for tool in three_tools().tools:
            self.check(three_tools(), tool)

    def test_random_kitchens(self):
        for kitchen in random_kitchens(91, 15, 3, 20):
            for tool in kitchen.tools:
                self.check(kitchen, tool)

    def test_the_answers_differ_from_those_with_the_tool(self):
        kitchen = three_tools()
        for name in set(QUESTIONS) - {"plan", "shares", "least number", "tight row"}:
            changed = [QUESTIONS[name](kitchen) != ask_closed(kitchen, tool, QUESTIONS[name]) for tool in kitchen.tools]
            self.assertIn(True, changed, name)

    def test_a_second_block_inside(self):
        for question in QUESTIONS.values():
            kitchen = three_tools()
            wanted = question(kitchen.with_number("oven", 0).with_number("stove", 0))
            self.assertEqual(ask_closed(kitchen, "oven", lambda held: ask_closed(held, "stove", question)), wanted)
            self.assertEqual(kitchen.numbers, (1, 2, 1))
            with kitchen.closed("oven") as held:
                before = question(held)
                with held.closed("stove"):
                    self.assertEqual(question(kitchen), wanted)
                self.assertEqual(kitchen.numbers, (0, 2, 1))
                self.assertEqual(question(held), before)
            self.assertEqual(kitchen.numbers, (1, 2, 1))

    def test_a_question_that_raises_an_error(self):
        for kind, question in WRONG_QUESTIONS:
            kitchen = three_tools()
            error_of(self, kind, lambda: ask_closed(kitchen, "oven", question))
            self.assertEqual(kitchen.numbers, (1, 2, 1))
            with kitchen.closed("oven") as held:
                error_of(self, kind, lambda: ask_closed(held, "stove", question))
                error_of(self, kind, lambda: question(held))
                self.assertEqual(held.numbers, (0, 2, 1))
            self.assertEqual(kitchen.numbers, (1, 2, 1))
            self.assertEqual(region_of(kitchen), region_of(three_tools()))

    def test_errors_tell_of_the_present_numbers(self):
        kitchen = three_tools()
        told = error_of(self, Beaten, lambda: ask_closed(kitchen, "oven", lambda held: paper(held, (0, 1, 1))))
        self.assertIsNone(ring_lack(kitchen.with_number("oven", 0), told["ring"]))
        told = error_of(self, Barred, lambda: ask_closed(kitchen, "oven", lambda held: shares(held, (GREAT, 0, GREAT))))
        self.assertIn(told["side"], region_of(kitchen.with_number("oven", 0)).sides)
        told = error_of(self, NotEnough, lambda: ask_closed(kitchen, "stove", lambda held: Service(held).start(2)))
        self.assertEqual(told, {"beat": 0, "tool": "stove"})

    def test_a_service_goes_on_behind_the_block(self):
        kitchen = three_tools()
        service = ask_closed(kitchen, "oven", Service)
        self.assertEqual(service.standing, ((0, 0, 0), (0, 0, 0)))
        service.start(0)
        self.assertEqual(ask_closed(kitchen, "oven", lambda held: service.standing), ((1, 0, 0), (1, 0, 0)))
        self.assertEqual(ask_closed(kitchen, "oven", lambda held: service.wait(2)), None)
        service.start(0)
        self.assertEqual(service.totals, (6, 2, 3))


if __name__ == "__main__":
    unittest.main()
