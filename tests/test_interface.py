"""The interface: each name exists as it is listed, and takes its parameters by position and by name."""

import importlib
import inspect
import unittest
from itertools import permutations

from mixpace.dishes import Dish
from mixpace.kitchens import Kitchen, ask_closed
from mixpace.mixes import lowest
from mixpace.papers import paper, tight_row
from mixpace.polygons import Region
from mixpace.reading import read_dish, write_dish
from mixpace.regions import best_ring, corner_rings, region_of
from mixpace.rows import first_lack, ring_lack, ring_mean, row_totals, stretch_totals
from mixpace.services import Service, serve_closed
from mixpace.standings import after_beat, after_start, all_standings, empty_standing, moves
from mixpace.wishes import least_number, parting_mix, plan, region_while_closed, shares
from tests.samples import PIE, TART, oven

FUNCTIONS = {
    "reading": ["read_dish(line)", "write_dish(dish)"],
    "kitchens": ["ask_closed(kitchen, tool, question)"],
    "standings": [
        "empty_standing(kitchen)",
        "after_start(kitchen, standing, index)",
        "after_beat(standing)",
        "moves(kitchen, standing)",
        "all_standings(kitchen)",
    ],
    "services": ["serve_closed(service, tool, indexes)"],
    "rows": [
        "first_lack(kitchen, row)",
        "row_totals(kitchen, row)",
        "stretch_totals(kitchen, row, begin, end)",
        "ring_lack(kitchen, ring)",
        "ring_mean(kitchen, ring)",
    ],
    "mixes": ["lowest(mix)"],
    "papers": ["paper(kitchen, bound)", "tight_row(kitchen, bound)"],
    "regions": ["best_ring(kitchen, a, b)", "region_of(kitchen)", "corner_rings(kitchen)"],
    "wishes": [
        "shares(kitchen, mix)",
        "plan(kitchen, mix, blocks)",
        "parting_mix(region, other)",
        "least_number(kitchen, tool, mix, *, most=3)",
        "region_while_closed(kitchen, tools)",
    ],
}
CLASSES = {
    "dishes": ("Dish(name, needs, *, first=0, second=0)", [], ["length", "worths"],
               ["__lshift__", "__or__", "__invert__", "__eq__"]),
    "kitchens": ("Kitchen(tools, menu)",
                 ["number_of(self, tool)", "with_number(self, tool, number)", "with_dish(self, dish)",
                  "closed(self, tool)"],
                 ["tools", "numbers", "menu", "horizon"], []),
    "services": ("Service(kitchen)", ["start(self, index)", "wait(self, beats=1)"], ["standing", "row", "totals"], []),
    "polygons": ("Region(mixes)", ["bar(self, mix)", "weights(self, mix)"], ["corners", "sides"],
                 ["__contains__", "__le__", "__eq__"]),
}


def plain(answer):
    """The answer in a form that can be compared: generators as lists, services as what they tell."""
    if inspect.isgenerator(answer):
        return list(answer)
    if isinstance(answer, Service):
        return (answer.standing, answer.row, answer.totals)
    if isinstance(answer, Kitchen):
        return (answer.tools, answer.numbers, answer.menu)
    return answer


def calls():
    """All functions, classes and methods with arguments for them; those after None are passed by name only."""
    kitchen = oven()
    service = Service(kitchen)
    region = Region([(0, 0, 1), (3, 1, 2), (1, 1, 1)])
    row = [(1, 0), (0, 0), (0, 1)]
    empty = ((0,), (0,))
    return [
        (Dish, {"name": "pie", "needs": [(0, "oven", 1)]}, {"first": 3, "second": 1}),
        (read_dish, {"line": "pie 3 1 oven@0"}, {}),
        (write_dish, {"dish": PIE}, {}),
        (Kitchen, {"tools": [("oven", 1)], "menu": [PIE]}, {}),
        (kitchen.number_of, {"tool": "oven"}, {}),
        (kitchen.with_number, {"tool": "oven", "number": 5}, {}),
        (kitchen.with_dish, {"dish": TART}, {}),
        (ask_closed, {"kitchen": kitchen, "tool": "oven", "question": region_of}, {}),
        (empty_standing, {"kitchen": kitchen}, {}),
        (after_start, {"kitchen": kitchen, "standing": empty, "index": 1}, {}),
        (after_beat, {"standing": ((1,), (2,))}, {}),
        (moves, {"kitchen": kitchen, "standing": empty}, {}),
        (all_standings, {"kitchen": kitchen}, {}),
        (Service, {"kitchen": kitchen}, {}),
        (service.wait, {"beats": 2}, {}),
        (serve_closed, {"service": service, "tool": "oven", "indexes": [0, 1]}, {}),
        (first_lack, {"kitchen": kitchen, "row": row}, {}),
        (row_totals, {"kitchen": kitchen, "row": row}, {}),
        (stretch_totals, {"kitchen": kitchen, "row": row, "begin": 1, "end": 3}, {}),
        (ring_lack, {"kitchen": kitchen, "ring": row}, {}),
        (ring_mean, {"kitchen": kitchen, "ring": row}, {}),
        (lowest, {"mix": (6, 2, 4)}, {}),
        (Region, {"mixes": [(1, 1, 1), (0, 0, 7)]}, {}),
        (region.bar, {"mix": (2, 1, 1)}, {}),
        (region.weights, {"mix": (5, 3, 4)}, {}),
        (paper, {"kitchen": kitchen, "bound": (1, 1, 2)}, {}),
        (tight_row, {"kitchen": kitchen, "bound": (1, 1, 2)}, {}),
        (best_ring, {"kitchen": kitchen, "a": 1, "b": 2}, {}),
        (region_of, {"kitchen": kitchen}, {}),
        (corner_rings, {"kitchen": kitchen}, {}),
        (shares, {"kitchen": kitchen, "mix": (5, 3, 4)}, {}),
        (plan, {"kitchen": kitchen, "mix": (5, 3, 4), "blocks": 2}, {}),
        (parting_mix, {"region": region, "other": Region([(0, 0, 1)])}, {}),
        (least_number, {"kitchen": kitchen, "tool": "oven", "mix": (4, 4, 1)}, {"most": 5}),
        (region_while_closed, {"kitchen": kitchen, "tools": ["oven"]}, {}),
    ]


class InterfaceTest(unittest.TestCase):
    def check_signature(self, listed, one):
        self.assertEqual(one.__name__ + str(inspect.signature(one)), listed)

    def test_functions(self):
        for name, listed in FUNCTIONS.items():
            module = importlib.import_module("mixpace." + name)
            for line in listed:
                one = getattr(module, line.split("(")[0])
                self.assertTrue(inspect.isfunction(one))
                self.assertEqual(one.__module__, module.__name__)
                self.check_signature(line, one)

    def test_classes(self):
        for name, (line, methods, properties, operators) in CLASSES.items():
            one = getattr(importlib.import_module("mixpace." + name), line.split("(")[0])
            self.assertTrue(inspect.isclass(one))
            self.check_signature(line, one)
            for method in methods:
                self.check_signature(method, vars(one)[method.split("(")[0]])
            for word in properties:
                self.assertIsInstance(vars(one)[word], property)
            self.assertLessEqual(set(operators), set(vars(one)))

    def test_generators(self):
        self.assertEqual([inspect.isgeneratorfunction(one) for one in (moves, plan)], [True, True])

    def test_all_parameters_by_position_and_by_name_in_any_order(self):
        for one, arguments, named in calls():
            wanted = plain(one(*arguments.values(), **named))
            for order in permutations([*arguments.items(), *named.items()]):
                with self.subTest(one.__name__, order=[name for name, _ in order]):
                    self.assertEqual(plain(one(**dict(order))), wanted)

    def test_methods_that_change_a_service_by_name(self):
        service = Service(kitchen=oven())
        service.start(index=0)
        service.wait(beats=2)
        service.start(index=1)
        self.assertEqual(service.row, [(1, 0), (0, 0), (0, 1)])

    def test_closed_by_name(self):
        with oven().closed(tool="oven") as held:
            self.assertEqual(held.numbers, (0,))

    def test_keyword_parameters_are_not_taken_by_position(self):
        for question in (lambda: Dish("pie", [(0, "oven", 1)], 3), lambda: least_number(oven(), "oven", (1, 1, 1), 3)):
            self.assertRaises(TypeError, question)


if __name__ == "__main__":
    unittest.main()
