"""Point 8, and point 3 of orders: two orders held against one another."""

import unittest
from itertools import product

from helping import (
    NO_NUMBERS, Asking, all_orders, all_wardrobes, house, larger_wardrobes, modelled, small_wardrobes, turned, wide,
)
from quickchange.errors import NoGarment, Worn
from quickchange.orders import set_against
from quickchange.wardrobe import Wardrobe


class Holding(Asking):
    def assert_leads(self, wardrobe, one, other, exchanges):
        """The exchanges, done one by one, lead from one order to the other, and are no more than is needed."""
        present = list(one)
        for place in exchanges:
            self.assertIs(place.__class__, int)
            self.assertTrue(0 <= place < len(present) - 1)
            self.assertFalse(wardrobe.meet(present[place], present[place + 1]))
            present[place], present[place + 1] = present[place + 1], present[place]
        self.assertEqual(present, list(other))
        self.assertEqual(len(exchanges), len(turned(one, other)))

    def assert_held(self, wardrobe, one, other):
        """What is told is what the document says, word by word."""
        answer = set_against(wardrobe, list(one), list(other))
        self.assertIs(answer.__class__, tuple)
        if modelled(wardrobe, one) == modelled(wardrobe, other):
            self.assertEqual(answer[:1] + answer[2:], ("same",))
            self.assertIs(answer[1].__class__, list)
            self.assert_leads(wardrobe, one, other, answer[1])
        elif set(one) != set(other):
            self.assertEqual(answer, ("unlike", min(set(one) ^ set(other)), None))
        else:
            pairs = [pair for pair in turned(one, other) if wardrobe.meet(*pair)]
            self.assertIn(answer, [("unlike",) + pair for pair in pairs])


class Same(Holding):
    def test_the_same_order(self):
        for order in ([], [3], [5, 4, 3, 2, 1, 0]):
            self.assertEqual(self.told(set_against, house(), order, list(order)), ("same", []))

    def test_one_list_handed_in_for_both(self):
        order = [3, 0, 4]
        self.assertEqual(self.told(set_against, house(), order, order), ("same", []))

    def test_one_exchange(self):
        self.assertEqual(self.told(set_against, house(), [0, 1], [1, 0]), ("same", [0]))
        self.assertEqual(self.told(set_against, house(), [2, 0, 1], [2, 1, 0]), ("same", [1]))
        self.assertEqual(self.told(set_against, house(), [0, 1, 2], [1, 0, 2]), ("same", [0]))

    def test_one_garment_passes_several(self):
        # Shirt and coat meet, so the shoes alone may move.
        self.assertEqual(self.told(set_against, house(), [0, 2, 4], [4, 0, 2]), ("same", [1, 0]))
        self.assertEqual(self.told(set_against, house(), [4, 0, 2], [0, 2, 4]), ("same", [0, 1]))

    def test_all_turned(self):
        answer = self.told(set_against, house(), [0, 1, 4], [4, 1, 0])
        self.assertEqual(answer[0], "same")
        self.assertEqual(len(answer[1]), 3)
        self.assert_leads(house(), [0, 1, 4], [4, 1, 0], answer[1])

    def test_six_garments_that_do_not_meet(self):
        wardrobe = Wardrobe(6, [[place] for place in range(6)])
        answer = self.told(set_against, wardrobe, [0, 1, 2, 3, 4, 5], [5, 4, 3, 2, 1, 0])
        self.assertEqual((answer[0], len(answer[1])), ("same", 15))
        self.assert_leads(wardrobe, [0, 1, 2, 3, 4, 5], [5, 4, 3, 2, 1, 0], answer[1])

    def test_six_places_and_six_garments(self):
        answer = self.told(set_against, wide(), [4, 5, 0, 3, 2, 1], [3, 0, 5, 4, 2, 1])
        self.assertEqual((answer[0], len(answer[1])), ("same", 6))
        self.assert_leads(wide(), [4, 5, 0, 3, 2, 1], [3, 0, 5, 4, 2, 1], answer[1])

    def test_no_garments(self):
        for places in (1, 6):
            self.assertEqual(self.told(set_against, Wardrobe(places, []), [], []), ("same", []))

    def test_by_argument_names(self):
        self.assertEqual(set_against(wardrobe=house(), one=[0, 1], other=[1, 0]), ("same", [0]))


class Unlike(Holding):
    def test_other_garments(self):
        for one, other, least in (
            ([], [0], 0), ([0], [], 0), ([0], [1], 0), ([1], [0], 0), ([0, 1], [0], 1), ([5], [5, 3], 3),
            ([5, 0], [0, 3], 3), ([3, 0], [0, 5], 3), ([0, 1, 2, 3, 4], [5, 4, 3, 2, 1], 0),
        ):
            self.assertEqual(self.told(set_against, house(), one, other), ("unlike", least, None))

    def test_other_garments_go_ahead_of_two_that_are_turned(self):
        self.assertEqual(self.told(set_against, house(), [0, 2, 4], [2, 0]), ("unlike", 4, None))
        self.assertEqual(self.told(set_against, house(), [2, 0], [0, 2, 4]), ("unlike", 4, None))

    def test_two_that_meet(self):
        self.assertEqual(self.told(set_against, house(), [0, 2], [2, 0]), ("unlike", 0, 2))
        self.assertEqual(self.told(set_against, house(), [2, 0], [0, 2]), ("unlike", 2, 0))

    def test_two_that_do_not_meet_are_never_told(self):
        self.assertEqual(self.told(set_against, house(), [0, 1, 2], [1, 2, 0]), ("unlike", 0, 2))
        self.assertEqual(self.told(set_against, house(), [4, 1, 0, 3], [3, 0, 1, 4]), ("unlike", 0, 3))

    def test_two_that_meet_at_the_last_place_alone(self):
        self.assertEqual(self.told(set_against, house(), [4, 0, 5], [0, 5, 4]), ("unlike", 4, 5))

    def test_several(self):
        answer = self.told(set_against, house(), [0, 2, 3], [3, 2, 0])
        self.assertIn(answer, [("unlike", 0, 2), ("unlike", 0, 3), ("unlike", 2, 3)])

    def test_one_place(self):
        wardrobe = Wardrobe(1, [[0], [0], [0]])
        self.assertEqual(self.told(set_against, wardrobe, [0, 1, 2], [0, 2, 1]), ("unlike", 1, 2))
        self.assertEqual(self.told(set_against, wardrobe, [2, 1], [2, 1]), ("same", []))

    def test_six_places_and_six_garments(self):
        answer = self.told(set_against, wide(), [0, 1, 2, 3, 4, 5], [0, 1, 2, 3, 5, 4])
        self.assertEqual(answer, ("same", [4]))
        answer = self.told(set_against, wide(), [0, 1, 3, 4, 5, 2], [5, 4, 0, 3, 1, 2])
        self.assertEqual(answer, ("unlike", 1, 3))


class Refused(Asking):
    def test_no_garment(self):
        for told in NO_NUMBERS:
            self.refused(NoGarment, set_against, house(), [0, told, 0], [], garment=told)
            self.refused(NoGarment, set_against, house(), [], [0, told, 0], garment=told)

    def test_no_garments_at_all(self):
        self.refused(NoGarment, set_against, Wardrobe(1, []), [], [0], garment=0)

    def test_twice(self):
        self.refused(Worn, set_against, house(), [3, 0, 3], [], garment=3)
        self.refused(Worn, set_against, house(), [], [3, 0, 3], garment=3)
        self.refused(Worn, set_against, house(), [0, 0], [0, 0], garment=0)

    def test_the_first_one_first(self):
        self.refused(Worn, set_against, house(), [0, 0], [9], garment=0)
        self.refused(NoGarment, set_against, house(), [9], [0, 0], garment=9)
        self.refused(NoGarment, set_against, house(), [8], [9], garment=8)
        self.refused(Worn, set_against, house(), [2, 1, 1, 2], [3, 3], garment=1)


class EveryPair(Holding):
    def assert_all_held(self, wardrobe):
        for one, other in product(all_orders(wardrobe), repeat=2):
            self.assert_held(wardrobe, one, other)

    def test_every_wardrobe_of_two_places_and_three_garments(self):
        for wardrobe in all_wardrobes(2, 3):
            self.assert_all_held(wardrobe)

    def test_other_wardrobes(self):
        for wardrobe in small_wardrobes() + larger_wardrobes():
            self.assert_all_held(wardrobe)

    def exchanged(self, wardrobe, order):
        """Every order that exchanges of neighbours that don't meet lead to."""
        found = [tuple(order)]
        for present in found:
            for place in range(len(present) - 1):
                if not set(wardrobe.covers(present[place])) & set(wardrobe.covers(present[place + 1])):
                    pair = (present[place + 1], present[place])
                    new = present[:place] + pair + present[place + 2:]
                    if new not in found:
                        found.append(new)
        return found

    def test_the_same_just_where_exchanges_lead_there(self):
        for wardrobe in small_wardrobes() + larger_wardrobes():
            for one in all_orders(wardrobe):
                reached = self.exchanged(wardrobe, one)
                for other in all_orders(wardrobe):
                    answer = set_against(wardrobe, list(one), list(other))
                    self.assertEqual(answer[0] == "same", other in reached)


if __name__ == "__main__":
    unittest.main()
