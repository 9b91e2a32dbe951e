"""Point 4: the wardrobe, what is refused, and where garments meet."""

import copy
import unittest

from quickchange.errors import NoGarment, TooMuch
from quickchange.wardrobe import Wardrobe

NO_NUMBER_OF_PLACES = (0, 7, -1, 100, 10 ** 6000, True, False, None, "3", "", 3.0, [3], (1,))

# Each is no rising list of places of a wardrobe of three.
NO_PLACES = (
    [], [0, 0], [1, 2, 2], [1, 0], [0, 2, 1], [2, 1, 0], [-1], [-1, 0], [3], [0, 3], [0, 1, 2, 3], [10 ** 6000],
    [True], [0, True], [False], [False, 1], [None], [0, None], [None, 0], ["0"], [0, "1"], ["0", 1], [0.0], [[0]],
    (0,), (0, 1), (), "0", "012", "", None, 0, True, {0: 1}, {},
)

NO_GARMENTS = (-1, -2, 3, 4, 10 ** 6000, True, False, None, "0", "", [], [0], (0,), 0.0, {})


class Made(unittest.TestCase):
    def test_one_place(self):
        wardrobe = Wardrobe(1, [[0], [0]])
        self.assertEqual(wardrobe.spots(), 1)
        self.assertEqual(wardrobe.many(), 2)
        self.assertEqual(wardrobe.covers(1), [0])

    def test_six_places_and_six_garments(self):
        covers = [[0], [0, 5], [0, 1, 2, 3, 4, 5], [5], [1, 3], [2, 4]]
        wardrobe = Wardrobe(6, covers)
        self.assertEqual(wardrobe.spots(), 6)
        self.assertEqual(wardrobe.many(), 6)
        self.assertEqual([wardrobe.covers(garment) for garment in range(6)], covers)

    def test_every_number_of_places(self):
        for places in range(1, 7):
            wardrobe = Wardrobe(places, [list(range(places))])
            self.assertEqual(wardrobe.spots(), places)
            self.assertEqual(wardrobe.covers(0), list(range(places)))

    def test_no_garments(self):
        for places in (1, 6):
            wardrobe = Wardrobe(places, [])
            self.assertEqual(wardrobe.spots(), places)
            self.assertEqual(wardrobe.many(), 0)
            for garment in (0, -1, None):
                with self.assertRaises(NoGarment):
                    wardrobe.covers(garment)

    def test_by_argument_names(self):
        self.assertEqual(Wardrobe(places=2, covers=[[1]]).covers(0), [1])

    def test_garments_may_cover_the_same_and_leave_places_free(self):
        wardrobe = Wardrobe(4, [[1, 2], [1, 2]])
        self.assertEqual(wardrobe.covers(0), wardrobe.covers(1))


class MakingRefused(unittest.TestCase):
    def test_number_of_places(self):
        for places in NO_NUMBER_OF_PLACES:
            for covers in ([], [[0]]):
                with self.assertRaises(TooMuch) as caught:
                    Wardrobe(places, covers)
                self.assertIsNone(caught.exception.row)

    def test_seven_garments(self):
        for count in (7, 8, 50):
            with self.assertRaises(TooMuch) as caught:
                Wardrobe(2, [[0]] * count)
            self.assertIsNone(caught.exception.row)

    def test_places_of_a_garment(self):
        for told in NO_PLACES:
            with self.assertRaises(NoGarment) as caught:
                Wardrobe(3, [[0], [1, 2], told, [0, 1, 2]])
            self.assertEqual(caught.exception.garment, 2)

    def test_the_first_such_garment_is_told(self):
        for told in NO_PLACES:
            for other in ([], None, [9]):
                with self.assertRaises(NoGarment) as caught:
                    Wardrobe(3, [told, [0], other])
                self.assertEqual(caught.exception.garment, 0)
        with self.assertRaises(NoGarment) as caught:
            Wardrobe(1, [[0], [0], [0], [0], [0], [1]])
        self.assertEqual(caught.exception.garment, 5)

    def test_the_number_told_is_a_whole_one(self):
        with self.assertRaises(NoGarment) as caught:
            Wardrobe(3, [[0], []])
        self.assertIs(caught.exception.garment.__class__, int)

    def test_too_much_goes_ahead(self):
        for places in NO_NUMBER_OF_PLACES:
            with self.assertRaises(TooMuch):
                Wardrobe(places, [[]])
            with self.assertRaises(TooMuch):
                Wardrobe(places, [[9]] * 7)
        for told in NO_PLACES:
            with self.assertRaises(TooMuch):
                Wardrobe(3, [told] + [[0]] * 6)


class Asked(unittest.TestCase):
    def setUp(self):
        self.wardrobe = Wardrobe(4, [[0, 1], [1, 2], [3]])

    def test_each_meets_itself(self):
        for garment in range(3):
            self.assertIs(self.wardrobe.meet(garment, garment), True)

    def test_meet(self):
        self.assertIs(self.wardrobe.meet(0, 1), True)
        self.assertIs(self.wardrobe.meet(1, 0), True)
        for garment in (0, 1):
            self.assertIs(self.wardrobe.meet(garment, 2), False)
            self.assertIs(self.wardrobe.meet(2, garment), False)

    def test_meet_at_any_place(self):
        lists = [[0], [1], [2], [0, 1], [0, 2], [0, 1, 2]]
        wardrobe = Wardrobe(3, lists)
        for one in range(6):
            for other in range(6):
                common = bool(set(lists[one]) & set(lists[other]))
                self.assertIs(wardrobe.meet(one, other), common, (one, other))

    def test_no_garment(self):
        for told in NO_GARMENTS:
            for ask in (
                lambda: self.wardrobe.covers(told),
                lambda: self.wardrobe.meet(told, 0),
                lambda: self.wardrobe.meet(0, told),
            ):
                with self.assertRaises(NoGarment) as caught:
                    ask()
                self.assertEqual(caught.exception.garment, told)
                self.assertIs(caught.exception.garment.__class__, told.__class__)

    def test_meet_tells_the_first_one_first(self):
        for one, other in ((-1, 3), (3, -1), ("a", None), (None, "a")):
            with self.assertRaises(NoGarment) as caught:
                self.wardrobe.meet(one, other)
            self.assertEqual(caught.exception.garment, one)


class Copies(unittest.TestCase):
    def test_what_is_handed_in_stays(self):
        covers = [[0, 1], [1]]
        before = copy.deepcopy(covers)
        wardrobe = Wardrobe(2, covers)
        wardrobe.meet(0, 1)
        wardrobe.covers(0)
        self.assertEqual(covers, before)

    def test_what_was_handed_in_is_changed_behind_it(self):
        covers = [[0, 1], [1]]
        wardrobe = Wardrobe(2, covers)
        covers[0].clear()
        covers[1][0] = 0
        covers.append([0])
        self.assertEqual(wardrobe.many(), 2)
        self.assertEqual([wardrobe.covers(0), wardrobe.covers(1)], [[0, 1], [1]])

    def test_one_list_handed_in_for_two_garments(self):
        places = [0]
        wardrobe = Wardrobe(2, [places, places])
        wardrobe.covers(0).append(1)
        self.assertEqual(wardrobe.covers(1), [0])
        self.assertEqual(places, [0])

    def test_what_was_told_is_changed_behind_it(self):
        covers = [[0, 1], [1]]
        wardrobe = Wardrobe(2, covers)
        told = wardrobe.covers(0)
        ahead = wardrobe.covers(0)
        self.assertIs(told.__class__, list)
        told.clear()
        self.assertEqual(wardrobe.covers(0), [0, 1])
        self.assertEqual(ahead, [0, 1])
        self.assertEqual(covers, [[0, 1], [1]])
        self.assertIs(wardrobe.meet(0, 1), True)

    def test_a_refusal_keeps_what_was_told(self):
        wardrobe = Wardrobe(2, [[0]])
        told = [0]
        with self.assertRaises(NoGarment) as caught:
            wardrobe.covers(told)
        told.append(1)
        self.assertEqual(caught.exception.garment, [0])


if __name__ == "__main__":
    unittest.main()
