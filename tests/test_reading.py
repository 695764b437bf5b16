import unittest

from mixpace.dishes import Dish
from mixpace.errors import InvalidLine
from mixpace.reading import read_dish, write_dish

# What stands in each place of a line when it is invalid.
WRONG_NAMES = ["", "A", "Pie", "pIe", "abcdefghijklm", "pie1", "pi-e", "pi_e", "1", "-", "pie@0", "pie\t", "\npie"]
WRONG_NUMBERS = ["", "00", "01", "007", "+1", "+0", "1.0", "1_0", "0x1", "a", "x", "1a", "1-", "\u0661", "\u00b2", "1\n"]
WRONG_WORTHS = WRONG_NUMBERS + ["-", "-0", "--1", "-01", "-00", "-1-", "-+1", "+-1", "-a"]
WRONG_BEATS = WRONG_NUMBERS + ["-1", "-0", "@1", "1@1", "1@"]
WRONG_AMOUNTS = WRONG_NUMBERS + ["0", "-1", "-0", "1x", "x1", "1x1", "@1", "1@0"]


class WriteTest(unittest.TestCase):
    def test_amounts_of_one_are_not_written(self):
        dish = Dish("pie", [(1, "oven", 1), (0, "oven", 1)], first=3, second=1)
        self.assertEqual(write_dish(dish), "pie 3 1 oven@0 oven@1")

    def test_amounts_above_one_are_written(self):
        dish = Dish("pie", [(0, "oven", 2), (12, "oven", 10), (12, "box", 1)], first=0, second=-40)
        self.assertEqual(write_dish(dish), "pie 0 -40 oven@0x2 box@12 oven@12x10")

    def test_merged_amounts_are_written(self):
        self.assertEqual(write_dish(Dish("pie", [(0, "oven", 1), (0, "oven", 1)])), "pie 0 0 oven@0x2")

    def test_by_name(self):
        self.assertEqual(write_dish(dish=Dish("a", [(0, "b", 1)])), "a 0 0 b@0")


class ReadTest(unittest.TestCase):
    def read(self, line):
        dish = read_dish(line)
        self.assertIs(type(dish), Dish)
        return (dish.name, dish.first, dish.second, dish.needs)

    def test_plain_lines(self):
        self.assertEqual(self.read("pie 3 1 oven@0 oven@1"), ("pie", 3, 1, ((0, "oven", 1), (1, "oven", 1))))
        self.assertEqual(self.read("a 0 0 b@0"), ("a", 0, 0, ((0, "b", 1),)))
        self.assertEqual(self.read("pie -10 -1 oven@20x30"), ("pie", -10, -1, ((20, "oven", 30),)))

    def test_needs_in_any_order(self):
        self.assertEqual(
            self.read("pie 3 1 pot@2 oven@10 oven@2 pot@0x5"),
            ("pie", 3, 1, ((0, "pot", 5), (2, "oven", 1), (2, "pot", 1), (10, "oven", 1))),
        )

    def test_repeated_needs_are_merged(self):
        self.assertEqual(self.read("pie 3 1 pot@2 oven@2 pot@2x3"), ("pie", 3, 1, ((2, "oven", 1), (2, "pot", 4))))

    def test_x1_is_allowed(self):
        self.assertEqual(self.read("pie 3 1 pot@2x1"), ("pie", 3, 1, ((2, "pot", 1),)))

    def test_names_with_an_x(self):
        self.assertEqual(self.read("x 3 1 x@0x2 boxx@1 xx@1x1"), ("x", 3, 1, ((0, "x", 2), (1, "boxx", 1), (1, "xx", 1))))

    def test_names_of_12_letters(self):
        name = "abcdefghixyz"
        self.assertEqual(self.read(f"{name} 0 0 {name}@0"), (name, 0, 0, ((0, name, 1),)))

    def test_by_name(self):
        self.assertEqual(read_dish(line="a 0 0 b@0").name, "a")


class InvalidLineTest(unittest.TestCase):
    def check(self, line, word):
        with self.subTest(line):
            with self.assertRaises(InvalidLine) as caught:
                read_dish(line)
            self.assertEqual(vars(caught.exception), {"word": word})

    def check_places(self, words, at, wrong):
        for word in wrong:
            self.check(" ".join(words[:at] + [word] + words[at + 1:]), at)

    def test_invalid_names(self):
        self.check_places(["pie", "3", "1", "oven@0"], 0, WRONG_NAMES)

    def test_invalid_worths(self):
        self.check_places(["pie", "3", "1", "oven@0"], 1, WRONG_WORTHS)
        self.check_places(["pie", "3", "1", "oven@0"], 2, WRONG_WORTHS)

    def test_exactly_the_signs_from_0_to_9_are_digits(self):
        for line, word in [("pie 5{} 1 oven@0", 1), ("pie 3 -5{} oven@0", 2), ("pie 3 1 oven@0x5{}", 3)]:
            for sign in map(chr, range(33, 256)):
                if sign not in "0123456789":
                    self.check(line.format(sign), word)
            for digit in "0123456789":
                written = line.format(digit)
                self.assertEqual(write_dish(read_dish(written)), written)

    def test_invalid_tools(self):
        wrong = [tool + "@0" for tool in WRONG_NAMES if "@" not in tool]
        for at in (3, 4, 5):
            self.check_places(["pie", "3", "1", "oven@0", "oven@1", "pot@0x2"], at, wrong)

    def test_invalid_beats(self):
        # Without "0x1", which is a valid beat and amount.
        wrong = ["oven@" + beat for beat in WRONG_BEATS if beat != "0x1"]
        wrong += ["oven@" + beat + "x2" for beat in WRONG_BEATS]
        for at in (3, 4, 5):
            self.check_places(["pie", "3", "1", "oven@0", "oven@1", "pot@0x2"], at, wrong)

    def test_invalid_amounts(self):
        wrong = ["oven@1x" + amount for amount in WRONG_AMOUNTS]
        for at in (3, 4, 5):
            self.check_places(["pie", "3", "1", "oven@0", "oven@1", "pot@0x2"], at, wrong)

    def test_missing_and_additional_parts(self):
        wrong = ["oven", "@0", "@", "oven@", "oven@x2", "oven@x", "oven@1x", "oven@1x2x3", "oven@1xx2", "oven@@1"]
        wrong += ["oven@1@2", "ovenx2", "oven1", "0@oven", "oven@1x2@", "oven@1x2x", "oven@1X2", "1x2@oven", "1"]
        self.check_places(["pie", "3", "1", "oven@0", "oven@1"], 3, wrong)
        self.check_places(["pie", "3", "1", "oven@0", "oven@1"], 4, wrong)

    def test_empty_words(self):
        self.check("", 0)
        self.check(" ", 0)
        self.check(" pie 3 1 oven@0", 0)
        self.check("pie  3 1 oven@0", 1)
        self.check("pie 3  1 oven@0", 2)
        self.check("pie 3 1  oven@0", 3)
        self.check("pie 3 1 oven@0  oven@1", 4)
        self.check("pie 3 1 oven@0 ", 4)
        self.check("pie 3 1 ", 3)
        self.check("pie ", 1)

    def test_too_few_words(self):
        self.check("pie", 1)
        self.check("pie 3", 2)
        self.check("pie 3 1", 3)

    def test_an_invalid_word_comes_before_too_few_words(self):
        self.check("Pie", 0)
        self.check("pie x", 1)
        self.check("pie 3 -0", 2)

    def test_the_first_invalid_word_counts(self):
        self.check("Pie 03 01 oven", 0)
        self.check("pie 03 01 oven", 1)
        self.check("pie 3 01 oven", 2)
        self.check("pie 3 1 oven oven@01", 3)
        self.check("pie 3 1 oven@0 oven@01 ", 4)

    def test_other_white_space_does_not_part_words(self):
        self.check("pie\t3 1 oven@0", 0)
        self.check("pie 3\t1 oven@0", 1)
        self.check("pie 3 1 oven@0\toven@1", 3)
        self.check("pie 3 1 oven@0\n", 3)


class RoundTripTest(unittest.TestCase):
    def test_what_is_written_is_read_as_an_equal_dish(self):
        pie = Dish("pie", [(1, "oven", 1), (0, "pot", 100000)], first=-3, second=1)
        dishes = [pie, pie << 9, pie | pie, ~pie, Dish("x", [(0, "x", 2), (0, "xx", 1)], first=10**12, second=-10**12)]
        for dish in dishes:
            line = write_dish(dish)
            with self.subTest(line):
                self.assertEqual(read_dish(line), dish)
                self.assertEqual(write_dish(read_dish(line)), line)

    def test_lines_in_the_written_form_stay(self):
        for line in ["pie 3 1 oven@0 oven@1", "a 0 -1 b@0x2 a@1 b@1x10 a@10", "x -10 0 x@0x2"]:
            with self.subTest(line):
                self.assertEqual(write_dish(read_dish(line)), line)

    def test_other_lines_get_the_written_form(self):
        self.assertEqual(write_dish(read_dish("pie 3 1 b@1x1 b@0 a@1x2 b@1")), "pie 3 1 b@0 a@1x2 b@1x2")


if __name__ == "__main__":
    unittest.main()
