"""Point 20: the slices of a book."""

import unittest

from helping import (
    BARE, COAT, COAT_SHIRT, SHIRT, SHIRT_COAT, TINY, Asking, after_beats, cost, counted, drawn_books, dressed_house,
    fitting_rows, house, just_300_at_1, just_300_at_4, larger_wardrobes, one_above_at_1, one_above_at_4,
    small_wardrobes, tiny, walked,
)
from quickchange.books import Book
from quickchange.errors import TooMany
from quickchange.slices import slices_of
from quickchange.wardrobe import Wardrobe

def alone(*pairs):
    """A slice of one player."""
    return [((wearing,), trouble) for wearing, trouble in pairs]


class Slices(Asking):
    def assert_slices(self, book, *slices):
        self.assertEqual(self.told(slices_of, book), list(slices))

    def test_no_beats_and_no_scenes(self):
        self.assert_slices(tiny((SHIRT,), 1, 0), alone((SHIRT, 0)))

    def test_no_garments(self):
        book = Book(Wardrobe(1, []), [], (((),), ((),)), 3, 2, [(1, [("bare", 0, 0)])])
        self.assert_slices(book, *[[((((),), ((),)), 0)]] * 3)

    def test_no_dresser(self):
        self.assert_slices(tiny((SHIRT,), 0, 2), *[alone((SHIRT, 0))] * 3)

    def test_one_dresser(self):
        self.assert_slices(
            tiny((BARE,), 1, 2),
            alone((BARE, 0)),
            alone((BARE, 0), (SHIRT, 1), (COAT, 4)),
            alone((BARE, 0), (SHIRT, 1), (SHIRT_COAT, 5), (COAT, 4), (COAT_SHIRT, 5)),
        )

    def test_only_what_lies_outermost_comes_off(self):
        self.assert_slices(
            tiny((SHIRT_COAT,), 2, 3),
            alone((SHIRT_COAT, 0)),
            alone((SHIRT, 8), (SHIRT_COAT, 0)),
            alone((BARE, 10), (SHIRT, 8), (SHIRT_COAT, 0)),
            alone((BARE, 10), (SHIRT, 8), (SHIRT_COAT, 0), (COAT, 14)),
        )

    def test_two_players_with_one_dresser(self):
        self.assert_slices(
            tiny((BARE, BARE), 1, 1),
            [((BARE, BARE), 0)],
            [((BARE, BARE), 0), ((BARE, SHIRT), 1), ((BARE, COAT), 4), ((SHIRT, BARE), 1), ((COAT, BARE), 4)],
        )

    def test_two_players_with_two_dressers(self):
        # Shirt and coat of one player meet, so they don't come on in one beat.
        self.assert_slices(
            tiny((BARE, BARE), 2, 1),
            [((BARE, BARE), 0)],
            [
                ((BARE, BARE), 0), ((BARE, SHIRT), 1), ((BARE, COAT), 4), ((SHIRT, BARE), 1), ((SHIRT, COAT), 5),
                ((COAT, BARE), 4), ((COAT, SHIRT), 5),
            ],
        )

    def test_a_garment_goes_from_one_player_to_the_other_in_two_beats(self):
        slices = self.told(slices_of, tiny((SHIRT, BARE), 6, 2))
        self.assertNotIn((BARE, SHIRT), [standing for standing, trouble in slices[1]])
        self.assertIn(((BARE, SHIRT), 3), slices[2])

    def test_see(self):
        self.assert_slices(
            tiny((BARE,), 1, 2, (1, [("see", 0, 1, 1)])),
            alone((BARE, 0)), alone((COAT, 4)), alone((BARE, 12), (COAT, 4), (COAT_SHIRT, 5)),
        )

    def test_bare(self):
        self.assert_slices(
            tiny((SHIRT_COAT,), 1, 3, (2, [("bare", 0, 0)])),
            alone((SHIRT_COAT, 0)), alone((SHIRT, 8), (SHIRT_COAT, 0)), alone((BARE, 10)),
            alone((BARE, 10), (SHIRT, 11), (COAT, 14)),
        )

    def test_stand(self):
        self.assert_slices(
            tiny((BARE,), 1, 2, (2, [("stand", 0, [1, 0])])),
            alone((BARE, 0)), alone((BARE, 0), (SHIRT, 1), (COAT, 4)), alone((COAT_SHIRT, 5)),
        )

    def test_a_scene_without_wishes(self):
        self.assert_slices(
            tiny((BARE,), 1, 1, (0, []), (1, [])), alone((BARE, 0)), alone((BARE, 0), (SHIRT, 1), (COAT, 4)),
        )

    def test_several_scenes_at_a_moment(self):
        scenes = [(1, [("bare", 0, 1)]), (1, []), (1, [("see", 0, 0, 0)])]
        self.assert_slices(tiny((BARE,), 1, 1, *scenes), alone((BARE, 0)), alone((SHIRT, 1)))
        self.assert_slices(tiny((BARE,), 1, 1, *scenes, (1, [("bare", 0, 0)])), alone((BARE, 0)), [])

    def test_a_scene_is_looked_at_at_its_moment_alone(self):
        self.assert_slices(
            tiny((BARE,), 1, 2, (0, [("bare", 0, 0)]), (2, [("see", 0, 0, 0)])),
            alone((BARE, 0)), alone((BARE, 0), (SHIRT, 1), (COAT, 4)), alone((SHIRT, 1), (COAT_SHIRT, 5)),
        )

    def test_scenes_at_each_moment(self):
        self.assert_slices(
            tiny((SHIRT,), 1, 2, (0, [("see", 0, 0, 0)]), (1, [("see", 0, 0, 1)]), (2, [("see", 0, 0, 0)])),
            alone((SHIRT, 0)), alone((SHIRT_COAT, 4)), alone((SHIRT, 12)),
        )

    def test_a_scene_that_the_start_does_not_show(self):
        self.assert_slices(tiny((BARE,), 1, 2, (0, [("see", 0, 0, 0)])), [], [], [])
        self.assert_slices(tiny((BARE,), 1, 0, (0, [("see", 0, 0, 0)])), [])

    def test_a_scene_that_is_not_seen_behind_some_beats(self):
        self.assert_slices(
            tiny((BARE,), 1, 3, (1, [("stand", 0, [0, 1])])), alone((BARE, 0)), [], [], [],
        )

    def test_a_scene_that_is_not_seen_at_the_end(self):
        self.assert_slices(
            tiny((COAT,), 1, 2, (2, [("stand", 0, [0, 1])])),
            alone((COAT, 0)), alone((BARE, 8), (COAT, 0), (COAT_SHIRT, 1)), [],
        )

    def test_no_dresser_and_a_scene(self):
        self.assert_slices(tiny((COAT,), 0, 1, (1, [("see", 0, 0, 1)])), *[alone((COAT, 0))] * 2)
        self.assert_slices(tiny((COAT,), 0, 1, (1, [("bare", 0, 0)])), alone((COAT, 0)), [])

    def test_twelve_beats_and_six_dressers(self):
        slices = self.told(slices_of, tiny((BARE,), 6, 12, (12, [("stand", 0, [0, 1])])))
        self.assertEqual(len(slices), 13)
        self.assertEqual([len(part) for part in slices], [1, 3] + [5] * 10 + [1])
        self.assertEqual(slices[12], alone((SHIRT_COAT, 5)))

    def test_numbers_beyond_their_bounds(self):
        book = Book(TINY, [(10 ** 7, 0), (0, 0)], (BARE,), 9, 14, [(14, [("see", 0, 0, 0)] * 13)] * 7)
        slices = self.told(slices_of, book)
        self.assertEqual(len(slices), 15)
        self.assertEqual(slices[14], alone((SHIRT, 10 ** 7), (COAT_SHIRT, 10 ** 7)))

    def test_a_house(self):
        book = Book(house(), [(1, 1)] * 6, dressed_house([0, 2]), 2, 2, [(2, [("stand", 0, [0, 1, 3])])])
        slices = self.told(slices_of, book)
        self.assertEqual(slices[2], [(dressed_house([0, 1, 3]), 3)])


class TooManyStandings(Asking):
    def assert_as_many(self, book, many):
        """The book's slices, counted by a walk of all beats, before the scenes are looked at."""
        self.assertEqual([len(before) for before, behind in walked(book, 0, book.start)], many)

    def test_just_300_at_moment_1(self):
        book = just_300_at_1(1)
        self.assert_as_many(book, [1, 300])
        self.assertEqual([len(part) for part in self.told(slices_of, book)], [1, 300])

    def test_one_above_at_moment_1(self):
        book = one_above_at_1(1)
        self.assert_as_many(book, [1, 301])
        self.refused(TooMany, slices_of, book, moment=1)

    def test_just_300_at_a_later_moment(self):
        book = just_300_at_4(4)
        self.assert_as_many(book, [1, 7, 32, 112, 300])
        self.assertEqual([len(part) for part in self.told(slices_of, book)], [1, 7, 32, 112, 300])
        self.refused(TooMany, slices_of, just_300_at_4(5), moment=5)

    def test_one_above_at_a_later_moment(self):
        book = one_above_at_4(4)
        self.assert_as_many(book, [1, 4, 18, 72, 301])
        self.refused(TooMany, slices_of, book, moment=4)
        self.assertEqual([len(part) for part in self.told(slices_of, one_above_at_4(3))], [1, 4, 18, 72])

    def test_the_first_such_moment(self):
        self.refused(TooMany, slices_of, one_above_at_1(12), moment=1)
        self.refused(TooMany, slices_of, one_above_at_4(12), moment=4)

    def test_far_more(self):
        covers = [[place] for place in range(6)]
        self.refused(TooMany, slices_of, counted(covers, 6, [[], [], []], 6, 1), moment=1)
        self.refused(TooMany, slices_of, counted(covers, 6, [[], [], []], 2, 12), moment=2)
        self.refused(TooMany, slices_of, counted(covers, 6, [[], [], []], 1, 12), moment=3)

    def test_before_its_own_scenes_are_looked_at(self):
        self.refused(TooMany, slices_of, one_above_at_1(1, (1, [("see", 0, 0, 0)])), moment=1)
        self.refused(TooMany, slices_of, one_above_at_4(4, (4, [("stand", 0, [])])), moment=4)

    def test_before_scenes_that_can_not_be_seen_are_looked_at(self):
        self.refused(TooMany, slices_of, one_above_at_1(1, (1, [("see", 0, 0, 0), ("bare", 0, 0)])), moment=1)

    def test_behind_the_scenes_of_the_moment_ahead(self):
        # What the scene at moment 3 leaves is few enough that moment 4 has room for what comes of it.
        book = one_above_at_4(4, (3, [("stand", 1, [4, 3])]))
        counts = [len(before) for before, behind in walked(book, 0, book.start)]
        self.assertEqual(counts[3], 72)
        self.assertLess(counts[4], 301)
        self.assertEqual(len(self.told(slices_of, book)[4]), counts[4])

    def test_behind_an_empty_slice(self):
        nothing = [("see", 0, 0, 0), ("bare", 0, 0)]
        self.assertEqual(self.told(slices_of, one_above_at_1(3, (0, nothing))), [[], [], [], []])
        slices = self.told(slices_of, one_above_at_4(5, (3, nothing)))
        self.assertEqual([len(part) for part in slices], [1, 4, 18, 0, 0, 0])


class EveryRow(unittest.TestCase):
    """Over many small books, by the document's words."""

    def test_slices_hold_just_what_rows_of_beats_lead_to(self):
        for book in drawn_books(11, 150, small_wardrobes(), 2, 2):
            slices = slices_of(book)
            self.assertEqual(len(slices), book.beats + 1)
            for moment, told in enumerate(slices):
                self.assertEqual(told, self.reached(book, moment))

    def reached(self, book, moment):
        """The slice of a moment: every row of beats up to it is walked."""
        scenes = [scene for scene in book.scenes if scene[0] <= moment]
        part = Book(book.wardrobe, book.prices, book.start, book.dressers, moment, scenes)
        least = {}
        for beats in fitting_rows(part, 0, part.start):
            goal = after_beats(part.wardrobe, part.start, beats)
            least[goal] = min(cost(part, beats), least.get(goal, cost(part, beats)))
        return sorted(least.items())

    def test_slices_hold_just_what_can_be_come_to(self):
        books = drawn_books(12, 300, small_wardrobes(), 3, 6) + drawn_books(13, 150, larger_wardrobes(), 2, 4)
        for book in books:
            pairs = walked(book, 0, book.start)
            # None of these has so many that it would be refused.
            self.assertLessEqual(max(len(before) for before, behind in pairs), 300)
            self.assertEqual(slices_of(book), [sorted(behind.items()) for before, behind in pairs])


if __name__ == "__main__":
    unittest.main()
