"""Point 18: books, and whether a scene is seen."""

import unittest
from itertools import product

from helping import (
    FIELDS, Asking, all_orders, all_standings, dressed_house, dressed_wide, frozen, house, modelled, small_wardrobes,
    spoil, wide,
)
from quickchange.books import Book, is_shown
from quickchange.wardrobe import Wardrobe

PRICES = [(1, 2), (3, 5), (7, 11), (13, 17), (19, 23), (0, 10 ** 6)]


def handed():
    """What a book is made of, made anew."""
    scenes = [
        (0, []),
        (1, [("see", 0, 1, 2), ("bare", 1, 0)]),
        (1, [("stand", 1, [5, 0])]),
        (4, [("stand", 0, []), ("see", 1, 3, 5)]),
    ]
    return [house(), list(PRICES), dressed_house([0, 2], [3]), 2, 4, scenes]


def fields_of(book):
    return [frozen(getattr(book, name)) for name in FIELDS[Book]]


class Books(Asking):
    def test_fields(self):
        self.assertEqual(fields_of(Book(*handed())), [frozen(thing) for thing in handed()])

    def test_by_argument_names(self):
        book = Book(**dict(zip(FIELDS[Book], handed())))
        self.assertEqual(fields_of(book), [frozen(thing) for thing in handed()])

    def test_the_least_book(self):
        book = Book(Wardrobe(1, []), [], (((),),), 0, 0, [])
        self.assertEqual((book.prices, book.start, book.dressers, book.beats, book.scenes), ([], (((),),), 0, 0, []))
        self.assertEqual((book.wardrobe.spots(), book.wardrobe.many()), (1, 0))

    def test_a_large_book(self):
        start = dressed_wide([0, 1], [4], [5, 2])
        scenes = [(2 * k, [("bare", k % 3, place) for place in range(6)] * 2) for k in range(6)]
        book = Book(wide(), PRICES, start, 6, 12, scenes)
        self.assertEqual((book.dressers, book.beats), (6, 12))
        self.assertEqual(book.scenes, scenes)
        self.assertEqual(book.start, start)

    def test_the_wardrobe_answers_as_the_one_handed_in(self):
        book = Book(*handed())
        for one, other in product(range(6), repeat=2):
            self.assertEqual(book.wardrobe.meet(one, other), house().meet(one, other))

    def test_what_is_handed_in_stays(self):
        things = handed()
        Book(*things)
        self.assertEqual(frozen(things), frozen(handed()))

    def test_a_copy_is_kept(self):
        things = handed()
        book = Book(*things)
        spoil(things)
        self.assertEqual(fields_of(book), [frozen(thing) for thing in handed()])

    def test_nothing_is_shared_with_what_was_handed_in(self):
        things = handed()
        book = Book(*things)
        self.assertIsNot(book.wardrobe, things[0])
        spoil(book.prices)
        spoil(book.scenes)
        self.assertEqual(frozen(things), frozen(handed()))

    def test_two_books_of_the_same_things(self):
        things = handed()
        one, other = Book(*things), Book(*things)
        spoil(one.prices)
        spoil(one.scenes)
        self.assertEqual(fields_of(other), [frozen(thing) for thing in handed()])

    def test_one_list_handed_in_for_two_scenes(self):
        wishes = [("bare", 0, 0)]
        book = Book(house(), PRICES, dressed_house([]), 1, 2, [(0, wishes), (1, wishes)])
        wishes.append(("bare", 0, 1))
        self.assertEqual(book.scenes, [(0, [("bare", 0, 0)]), (1, [("bare", 0, 0)])])


class Wishes(Asking):
    def assert_shown(self, standing, *wishes):
        self.assertIs(self.told(is_shown, house(), standing, list(wishes)), True)

    def assert_not_shown(self, standing, *wishes):
        self.assertIs(self.told(is_shown, house(), standing, list(wishes)), False)

    def test_no_wishes(self):
        for standing in (dressed_house([]), dressed_house([5, 0], [3], [4])):
            self.assert_shown(standing)
        self.assertIs(self.told(is_shown, Wardrobe(1, []), (((),),), []), True)

    def test_see(self):
        standing = dressed_house([0, 2], [3, 1], [])
        for wish in (("see", 0, 1, 2), ("see", 0, 2, 2), ("see", 1, 0, 3), ("see", 1, 1, 3), ("see", 1, 2, 1)):
            self.assert_shown(standing, wish)

    def test_see_what_is_not_seen(self):
        standing = dressed_house([0, 2], [3, 1], [])
        # Beneath another one, elsewhere, on another player, or not worn at all.
        for wish in (
            ("see", 0, 1, 0), ("see", 0, 3, 2), ("see", 1, 1, 2), ("see", 2, 1, 2), ("see", 0, 1, 5), ("see", 2, 0, 0),
        ):
            self.assert_not_shown(standing, wish)

    def test_see_the_garment_nought(self):
        self.assert_shown(dressed_house([0]), ("see", 0, 1, 0))
        self.assert_not_shown(dressed_house([]), ("see", 0, 1, 0))

    def test_bare(self):
        standing = dressed_house([0, 2], [3, 1], [])
        for wish in (("bare", 0, 0), ("bare", 0, 3), ("bare", 1, 3), ("bare", 2, 0), ("bare", 2, 3)):
            self.assert_shown(standing, wish)
        for wish in (("bare", 0, 1), ("bare", 0, 2), ("bare", 1, 0), ("bare", 1, 2)):
            self.assert_not_shown(standing, wish)

    def test_not_bare_under_the_garment_nought(self):
        self.assert_not_shown(dressed_house([0]), ("bare", 0, 1))

    def test_stand(self):
        standing = dressed_house([0, 2, 4], [3], [])
        for wish in (
            ("stand", 0, [0, 2, 4]), ("stand", 0, [4, 0, 2]), ("stand", 0, [0, 4, 2]), ("stand", 1, [3]),
            ("stand", 2, []),
        ):
            self.assert_shown(standing, wish)

    def test_stand_otherwise(self):
        standing = dressed_house([0, 2, 4], [3], [])
        for wish in (
            ("stand", 0, [2, 0, 4]), ("stand", 0, [0, 2]), ("stand", 0, [0, 2, 4, 1]), ("stand", 0, []),
            ("stand", 1, []), ("stand", 1, [0]), ("stand", 2, [3]), ("stand", 1, [0, 2, 4]),
        ):
            self.assert_not_shown(standing, wish)

    def test_all_have_to_hold(self):
        standing = dressed_house([0, 2], [3])
        holding = [("see", 0, 1, 2), ("bare", 0, 3), ("stand", 1, [3])]
        self.assert_shown(standing, *holding)
        for wish in (("see", 0, 1, 0), ("bare", 0, 1), ("stand", 0, [2])):
            for place in range(4):
                self.assert_not_shown(standing, *(holding[:place] + [wish] + holding[place:]))

    def test_twelve_wishes(self):
        wishes = [("bare", 0, place) for place in range(4)] * 3
        self.assert_shown(dressed_house([]), *wishes)
        self.assert_not_shown(dressed_house([4]), *wishes)

    def test_wishes_that_go_against_one_another(self):
        for standing in (dressed_house([]), dressed_house([4])):
            self.assert_not_shown(standing, ("bare", 0, 3), ("see", 0, 3, 4))

    def test_six_places(self):
        wishes = [("see", 1, place, 2) for place in range(6)] + [("bare", 0, place) for place in range(6)]
        self.assertIs(self.told(is_shown, wide(), dressed_wide([], [0, 1, 2]), wishes), True)
        self.assertIs(self.told(is_shown, wide(), dressed_wide([], [0, 2, 1]), wishes), False)

    def test_by_argument_names(self):
        self.assertIs(is_shown(wardrobe=house(), standing=dressed_house([]), wishes=[("bare", 0, 0)]), True)


class EveryStanding(unittest.TestCase):
    def test_every_wish(self):
        for wardrobe in small_wardrobes():
            for standing in all_standings(wardrobe, 2):
                for player, wearing in enumerate(standing):
                    self.assert_looks(wardrobe, standing, player, wearing)
                    for order in all_orders(wardrobe):
                        shown = is_shown(wardrobe, standing, [("stand", player, list(order))])
                        self.assertIs(shown, wearing == modelled(wardrobe, order))

    def assert_looks(self, wardrobe, standing, player, wearing):
        for place, row in enumerate(wearing):
            self.assertIs(is_shown(wardrobe, standing, [("bare", player, place)]), row == ())
            for garment in range(wardrobe.many()):
                shown = is_shown(wardrobe, standing, [("see", player, place, garment)])
                self.assertIs(shown, row[-1:] == (garment,))


if __name__ == "__main__":
    unittest.main()
