"""Point 2: what a whole number is."""

import unittest

from quickchange.plain import copied, is_below, is_whole


class WholeNumbers(unittest.TestCase):
    def test_numbers(self):
        for value in (0, 1, -1, 10 ** 30):
            self.assertIs(is_whole(value), True)

    def test_others(self):
        for value in (True, False, None, "1", 1.0, [1], (1,)):
            self.assertIs(is_whole(value), False)

    def test_below(self):
        self.assertEqual([value for value in range(-2, 5) if is_below(value, 3)], [0, 1, 2])
        for value in (True, False, None, "1", 1.0, [1]):
            self.assertIs(is_below(value, 3), False)


class Copied(unittest.TestCase):
    def test_the_same_but_no_list_in_common(self):
        for value in ([], [[]], ([1], "a"), {"a": [1]}, 3, "x", None, True):
            made = copied(value)
            self.assertEqual(made, value)
            self.assertIs(made.__class__, value.__class__)

    def test_nothing_is_shared(self):
        value = ([1], {"a": [2]})
        made = copied(value)
        value[0].append(3)
        value[1]["a"].append(3)
        value[1]["b"] = 3
        self.assertEqual(made, ([1], {"a": [2]}))


if __name__ == "__main__":
    unittest.main()
