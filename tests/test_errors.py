import unittest

from mixpace import errors

PLAIN = ["InvalidDish", "InvalidKitchen", "EmptyRegion"]
WITH_ATTRIBUTES = {
    "InvalidLine": {"word": 3},
    "UnknownTool": {"tool": "oven"},
    "NoDish": {"index": -1},
    "NotEnough": {"beat": 2, "tool": "oven"},
    "InvalidRow": {"beat": 0},
    "InvalidMix": {"mix": (1, 1, 0)},
    "Barred": {"side": (1, 1, 2)},
    "Beaten": {"ring": [(1, 0), (0, 0)]},
}


class ErrorsTest(unittest.TestCase):
    def test_there_are_eleven_errors_below_the_base_class(self):
        below = [one for one in vars(errors).values() if isinstance(one, type) and one is not errors.KitchenError]
        self.assertEqual(sorted(one.__name__ for one in below), sorted(PLAIN + list(WITH_ATTRIBUTES)))
        self.assertEqual(len(below), 11)

    def test_the_base_class_is_a_value_error(self):
        self.assertEqual(errors.KitchenError.__bases__, (ValueError,))

    def test_each_error_is_a_direct_subclass_of_the_base_class_only(self):
        for name in PLAIN + list(WITH_ATTRIBUTES):
            with self.subTest(name):
                self.assertEqual(getattr(errors, name).__bases__, (errors.KitchenError,))
                self.assertEqual(getattr(errors, name).__module__, "mixpace.errors")

    def test_each_error_is_none_of_the_ten_others(self):
        for name in PLAIN + list(WITH_ATTRIBUTES):
            error = getattr(errors, name)(*WITH_ATTRIBUTES.get(name, {}).values())
            kinds = [other for other in PLAIN + list(WITH_ATTRIBUTES) if isinstance(error, getattr(errors, other))]
            self.assertEqual(kinds, [name])
            self.assertEqual([isinstance(error, errors.KitchenError), isinstance(error, ValueError)], [True, True])

    def test_errors_with_attributes_have_them_by_position_and_by_name(self):
        for name, attributes in WITH_ATTRIBUTES.items():
            with self.subTest(name):
                self.assertEqual(vars(getattr(errors, name)(*attributes.values())), attributes)
                self.assertEqual(vars(getattr(errors, name)(**attributes)), attributes)

    def test_errors_without_attributes_have_none(self):
        for name in PLAIN:
            with self.subTest(name):
                self.assertEqual(vars(getattr(errors, name)("why")), {})

    def test_each_error_has_a_message(self):
        for name, attributes in WITH_ATTRIBUTES.items():
            with self.subTest(name):
                self.assertNotEqual(str(getattr(errors, name)(*attributes.values())), "")
