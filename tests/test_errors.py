"""Point 2 and the interface: the classes of the refusals and their fields."""

import unittest

from quickchange import errors
from quickchange.errors import WardrobeError

FIELDS = {
    "TooMuch": ("row",),
    "NoGarment": ("garment",),
    "Worn": ("garment",),
    "NotWorn": ("garment",),
    "Covered": ("garment", "over"),
    "NoLook": ("place", "garment"),
    "NoDeed": (),
    "Crossed": ("first", "second"),
    "TooMany": ("moment",),
    "NoRow": ("row",),
    "OutOfPlace": ("row",),
    "NoName": ("row", "name"),
    "Twice": ("row", "name"),
    "NoBeat": (),
    "NoHands": (),
    "NotSeen": (),
}


def refusal_class(name):
    return getattr(errors, name)


class Classes(unittest.TestCase):
    def test_wardrobe_error_is_a_value_error(self):
        self.assertTrue(issubclass(WardrobeError, ValueError))

    def test_each_stands_under_wardrobe_error(self):
        for name in FIELDS:
            self.assertTrue(issubclass(refusal_class(name), WardrobeError), name)
            self.assertIsNot(refusal_class(name), WardrobeError, name)

    def test_none_stands_under_another(self):
        for name in FIELDS:
            for other in FIELDS:
                under = issubclass(refusal_class(name), refusal_class(other))
                self.assertEqual(under, name == other, (name, other))

    def test_each_is_taken_as_any_refusal(self):
        for name, fields in FIELDS.items():
            with self.assertRaises(WardrobeError):
                raise refusal_class(name)(*range(len(fields)))


class Fields(unittest.TestCase):
    def test_fields_by_place(self):
        for name, fields in FIELDS.items():
            made = refusal_class(name)(*[10 + k for k in range(len(fields))])
            for k, field in enumerate(fields):
                self.assertEqual(getattr(made, field), 10 + k, (name, field))

    def test_fields_by_name(self):
        for name, fields in FIELDS.items():
            made = refusal_class(name)(**{field: field for field in fields})
            for field in fields:
                self.assertEqual(getattr(made, field), field, (name, field))

    def test_too_much_needs_no_row(self):
        self.assertIsNone(errors.TooMuch().row)

    def test_all_other_values_are_needed(self):
        for name, fields in FIELDS.items():
            if fields and name != "TooMuch":
                with self.assertRaises(TypeError):
                    refusal_class(name)(*range(len(fields) - 1))


class Copies(unittest.TestCase):
    def test_what_was_told_is_kept_as_it_was(self):
        told = [0, [1, {"a": [2]}], ([3],)]
        for made in (errors.NoGarment(told), errors.NoLook(0, told)):
            told[1][1]["a"].append(7)
            told[1].append(8)
            told[2][0].append(9)
            told.append(10)
            self.assertEqual(made.garment, [0, [1, {"a": [2]}], ([3],)])
            self.assertEqual(made.args[-1], made.garment)
            told = [0, [1, {"a": [2]}], ([3],)]

    def test_the_field_is_the_askers_own(self):
        told = [0, [1]]
        for made in (errors.NoGarment(told), errors.NoLook(0, told)):
            made.garment[1].append(2)
            made.garment.append(3)
            self.assertEqual(told, [0, [1]])

    def test_a_list_that_holds_itself(self):
        told = [0]
        told.append(told)
        self.assertEqual(errors.NoGarment(told).garment[1][0], 0)

    def test_a_number_too_long_to_be_written(self):
        self.assertEqual(errors.NoGarment(10 ** 6000).garment, 10 ** 6000)


if __name__ == "__main__":
    unittest.main()
