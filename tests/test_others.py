"""Points 22, 23 and 24: the needed dressers, and books made longer."""

import unittest

from helping import (
    BARE, COAT, SHIRT, SHIRT_COAT, Asking, counted, drawn_books, frozen, larger_wardrobes, one_above_at_1,
    one_above_at_4, small_wardrobes, spoil, tiny, walked,
)
from quickchange.books import Book
from quickchange.errors import TooMany
from quickchange.others import further_beats, made_longer, needed_dressers
from quickchange.plans import plan_of
from quickchange.wardrobe import Wardrobe

NOTHING = [("see", 0, 0, 0), ("bare", 0, 0)]
APART = [[place] for place in range(6)]


def row_of_six(dressers, beats, wishes):
    """Six garments that don't meet, one player, and wishes at the end."""
    return counted(APART, 6, [[]], dressers, beats, [(beats, wishes)])


def seen(many):
    """Wishes that so many of the six are seen."""
    return [("see", 0, garment, garment) for garment in range(many)]


def changed(book, dressers=None, beats=None, scenes=None):
    """The book with something else than it has."""
    return Book(
        book.wardrobe, book.prices, book.start, book.dressers if dressers is None else dressers,
        book.beats if beats is None else beats, book.scenes if scenes is None else scenes,
    )


def is_planned(book):
    """True where a row of beats goes with the book; all beats of all standings are walked."""
    return walked(book, 0, book.start)[-1][1] != {}


class NeededDressers(Asking):
    def assert_needed(self, book, needed):
        answer = self.told(needed_dressers, book)
        self.assertEqual(frozen(answer), frozen(needed))

    def test_none_are_needed(self):
        self.assert_needed(tiny((BARE,), 1, 0), 0)
        self.assert_needed(tiny((SHIRT,), 3, 2, (1, [("see", 0, 0, 0)])), 0)

    def test_one_to_six(self):
        for many in range(7):
            self.assert_needed(row_of_six(1, 1, seen(many)), many)

    def test_with_more_beats(self):
        self.assert_needed(row_of_six(0, 2, seen(6)), 3)
        self.assert_needed(row_of_six(0, 3, seen(6)), 2)
        self.assert_needed(row_of_six(0, 6, seen(6)), 1)

    def test_the_books_own_number_does_not_count(self):
        for dressers in range(7):
            self.assert_needed(row_of_six(dressers, 1, seen(2)), 2)

    def test_none(self):
        self.assert_needed(tiny((BARE,), 6, 3, (3, NOTHING)), None)
        self.assert_needed(tiny((BARE,), 6, 3, (0, [("see", 0, 0, 0)])), None)
        self.assert_needed(tiny((BARE,), 6, 1, (1, [("stand", 0, [0, 1])])), None)
        self.assert_needed(tiny((BARE,), 6, 0, (0, [("see", 0, 0, 0)])), None)

    def test_two_players(self):
        book = tiny((SHIRT, COAT), 0, 1, (1, [("stand", 0, []), ("stand", 1, [])]))
        self.assert_needed(book, 2)

    def test_a_number_tried_is_refused(self):
        # No dresser isn't enough, one of them leads to too many standings, and four would do it at the first beat.
        book = counted(APART, 6, [[], [], []], 6, 3, [(3, seen(2))])
        self.refused(TooMany, needed_dressers, book, moment=3)
        book = counted(APART, 6, [[], [], []], 6, 2, [(2, seen(3))])
        self.refused(TooMany, needed_dressers, book, moment=2)

    def test_what_is_not_tried_is_not_refused(self):
        book = one_above_at_1(1, (1, [("see", 0, 0, 0)]))
        self.refused(TooMany, plan_of, book, moment=1)
        self.assert_needed(book, 1)
        self.assert_needed(one_above_at_4(12), 0)

    def test_a_refusal_ahead_of_none(self):
        self.refused(TooMany, needed_dressers, one_above_at_4(4, (4, NOTHING)), moment=4)

    def test_by_argument_names(self):
        self.assertEqual(needed_dressers(book=tiny((BARE,), 1, 1)), 0)

    def test_every_number_is_held_against_the_words(self):
        found = {}
        books = drawn_books(43, 200, small_wardrobes(), 2, 3) + drawn_books(42, 40, larger_wardrobes(), 2, 2)
        for book in books:
            fitting = [dressers for dressers in range(7) if is_planned(changed(book, dressers=dressers))]
            needed = needed_dressers(book)
            self.assertEqual(needed, min(fitting, default=None))
            found[needed] = found.get(needed, 0) + 1
        for needed in (0, 1, 2, None):
            self.assertGreater(found.get(needed, 0), 2)


class MadeLonger(Asking):
    def book(self, beats=4):
        scenes = [(0, []), (1, [("see", 0, 0, 0)]), (1, [("bare", 0, 1)]), (4, [("stand", 0, [1, 0])])]
        return tiny((BARE, SHIRT), 3, beats, *scenes)

    def assert_longer(self, moment, more, *moments):
        book = self.book()
        longer = self.told(made_longer, book, moment, more)
        self.assertIs(longer.__class__, Book)
        scenes = [(when, wishes) for when, (old, wishes) in zip(moments, book.scenes)]
        self.assertEqual(frozen(longer), frozen(changed(book, beats=4 + more, scenes=scenes)))

    def test_at_moment_0(self):
        self.assert_longer(0, 2, 0, 3, 3, 6)

    def test_at_a_scenes_moment(self):
        self.assert_longer(1, 2, 0, 1, 1, 6)

    def test_between_scenes(self):
        self.assert_longer(2, 1, 0, 1, 1, 5)
        self.assert_longer(3, 1, 0, 1, 1, 5)

    def test_at_the_end(self):
        self.assert_longer(4, 3, 0, 1, 1, 4)

    def test_by_no_beat(self):
        for moment in range(5):
            self.assert_longer(moment, 0, 0, 1, 1, 4)

    def test_to_twelve_beats(self):
        self.assert_longer(0, 8, 0, 9, 9, 12)
        self.assert_longer(4, 8, 0, 1, 1, 4)

    def test_no_scenes_and_no_beats(self):
        longer = self.told(made_longer, tiny((COAT,), 1, 0), 0, 12)
        self.assertEqual(frozen(longer), frozen(tiny((COAT,), 1, 12)))

    def test_it_is_a_new_book(self):
        book = self.book()
        before = frozen(book)
        for more in (0, 2):
            longer = made_longer(book, 1, more)
            self.assertIsNot(longer, book)
            self.assertIsNot(longer.wardrobe, book.wardrobe)
            spoil(longer)
            self.assertEqual(frozen(book), before)

    def test_by_argument_names(self):
        self.assertEqual(made_longer(book=self.book(), moment=0, more=1).beats, 5)


class FurtherBeats(Asking):
    def assert_further(self, book, moment, further):
        answer = self.told(further_beats, book, moment)
        self.assertEqual(frozen(answer), frozen(further))

    def test_none_are_needed(self):
        self.assert_further(tiny((BARE,), 1, 0), 0, 0)
        self.assert_further(tiny((SHIRT,), 0, 12, (12, [("see", 0, 0, 0)])), 12, 0)

    def test_one_to_six(self):
        # At the moment of the scene itself it stays where it is, and more beats don't help.
        for many in range(1, 7):
            self.assert_further(row_of_six(1, 1, seen(many)), 0, many - 1)
            self.assert_further(row_of_six(1, 1, seen(many)), 1, None if many > 1 else 0)

    def test_a_book_without_beats(self):
        # Its one scene is at moment 0, behind which more beats come.
        self.assert_further(tiny((BARE,), 1, 0, (0, [("see", 0, 0, 0)])), 0, None)
        self.assert_further(tiny((BARE,), 1, 0, (0, [("bare", 0, 0)])), 0, 0)

    def test_between_two_scenes(self):
        scenes = [(1, [("see", 0, 0, 0)]), (2, [("stand", 0, [1, 0])])]
        book = tiny((BARE,), 1, 2, *scenes)
        # The shirt comes off, the coat on, the shirt on again; or all of it ahead of the first scene.
        self.assert_further(book, 1, 2)
        self.assert_further(book, 0, 1)
        self.assert_further(book, 2, None)

    def test_up_to_twelve_beats(self):
        wishes = [("stand", 0, [0, 1, 2, 3, 4, 5])]
        scenes = [(1, [("stand", 0, [5])]), (8, [("stand", 0, [])]), (9, [("stand", 0, [0, 1, 2])])]
        book = counted(APART, 6, [[]], 1, 9, scenes)
        self.assert_further(book, 8, 2)
        longer = [scenes[0], scenes[1], (9, [("stand", 0, [0, 1, 2, 3])])]
        self.assert_further(counted(APART, 6, [[]], 1, 9, longer), 8, 3)
        longest = [scenes[0], scenes[1], (9, [("stand", 0, [0, 1, 2, 3, 4])])]
        self.assert_further(counted(APART, 6, [[]], 1, 9, longest), 8, None)
        self.assert_further(row_of_six(0, 0, wishes), 0, None)

    def test_a_book_of_twelve_beats(self):
        self.assert_further(tiny((BARE,), 1, 12, (12, [("see", 0, 0, 0)])), 0, 0)
        self.assert_further(tiny((BARE,), 0, 12, (12, [("see", 0, 0, 0)])), 0, None)

    def test_no_dresser(self):
        self.assert_further(tiny((BARE,), 0, 1, (1, [("see", 0, 0, 0)])), 0, None)

    def test_none(self):
        for moment in range(4):
            self.assert_further(tiny((BARE,), 6, 3, (3, NOTHING)), moment, None)
            self.assert_further(tiny((BARE,), 6, 3, (0, [("see", 0, 0, 0)])), moment, None)

    def test_a_number_tried_is_refused(self):
        # No further beat isn't enough; with the first of them too many standings are come to ahead of the scene.
        wishes = [("stand", 0, [1, 0, 2, 5]), ("stand", 1, [3, 4])]
        book = one_above_at_4(3, (3, wishes))
        self.assertEqual(plan_of(book), ("none", 2))
        self.refused(TooMany, further_beats, book, 0, moment=4)

    def test_what_is_not_tried_is_not_refused(self):
        book = one_above_at_4(3, (3, [("stand", 1, [4])]))
        self.assert_further(book, 0, 0)
        self.refused(TooMany, plan_of, made_longer(book, 0, 1), moment=4)

    def test_the_first_one_tried_is_refused(self):
        self.refused(TooMany, further_beats, one_above_at_1(1), 0, moment=1)
        self.refused(TooMany, further_beats, one_above_at_4(12), 3, moment=4)

    def test_by_argument_names(self):
        self.assertEqual(further_beats(book=tiny((SHIRT_COAT,), 1, 1), moment=1), 0)

    def test_every_number_is_held_against_the_words(self):
        found = {}
        for book in drawn_books(43, 100, small_wardrobes(), 2, 3):
            for moment in range(book.beats + 1):
                further = further_beats(book, moment)
                self.assertEqual(further, self.least(book, moment))
                found[further] = found.get(further, 0) + 1
        for further in (0, 1, 2, None):
            self.assertGreater(found.get(further, 0), 2)

    def least(self, book, moment):
        """The first number of beats by which the book, made longer there, has a plan."""
        for more in range(13 - book.beats):
            if is_planned(self.longer(book, moment, more)):
                return more
        return None

    def longer(self, book, moment, more):
        scenes = [(when + more * (when > moment), wishes) for when, wishes in book.scenes]
        return changed(book, beats=book.beats + more, scenes=scenes)


class Never(unittest.TestCase):
    """Point 24, between a book and the books told of it."""

    def test_more_than_the_needed_dressers_and_beats(self):
        for book in drawn_books(44, 60, small_wardrobes(), 2, 3):
            needed = needed_dressers(book)
            troubles = [plan_of(changed(book, dressers=dressers))[:2] for dressers in range(needed or 0, 7)]
            self.assert_falling(troubles, needed)
            for moment in range(book.beats + 1):
                further = further_beats(book, moment)
                troubles = [plan_of(made_longer(book, moment, more))[:2] for more in range(further or 0, 7)]
                self.assert_falling(troubles, further)

    def assert_falling(self, answers, least):
        if least is None:
            self.assertEqual({answer[0] for answer in answers}, {"none"})
        else:
            self.assertEqual({answer[0] for answer in answers}, {"plan"})
            troubles = [answer[1] for answer in answers]
            self.assertEqual(troubles, sorted(troubles, reverse=True))


if __name__ == "__main__":
    unittest.main()
