"""Points 19 and 21: rows of beats that go with a book, and plans; and point 24 over them."""

import unittest
from itertools import product

from helping import (
    BARE, COAT, COAT_SHIRT, SHIRT, SHIRT_COAT, Asking, after_beats, all_beats, all_standings, cost, counted,
    drawn_books, dressed_house, dressed_wide, fitting_rows, house, just_300_at_1, just_300_at_4, larger_wardrobes,
    one_above_at_1, one_above_at_4, small_wardrobes, tiny, walked, wide,
)
from quickchange.books import Book
from quickchange.errors import TooMany
from quickchange.plans import goes_with, plan_from, plan_of
from quickchange.wardrobe import Wardrobe

NOTHING = [("see", 0, 0, 0), ("bare", 0, 0)]
ON_SHIRT, OFF_SHIRT = (0, "on", 0), (0, "off", 0)
ON_COAT, OFF_COAT = (0, "on", 1), (0, "off", 1)


class GoesWith(Asking):
    def assert_goes(self, book, beats, moment=0, standing=None):
        self.assertIs(self.told(goes_with, book, moment, standing or book.start, beats), True)

    def assert_goes_not(self, book, beats, moment=0, standing=None):
        self.assertIs(self.told(goes_with, book, moment, standing or book.start, beats), False)

    def test_no_beats_and_no_scenes(self):
        self.assert_goes(tiny((SHIRT,), 1, 0), [])
        self.assert_goes_not(tiny((SHIRT,), 1, 0), [[]])

    def test_as_many_beats_as_are_left(self):
        book = tiny((BARE,), 1, 2)
        self.assert_goes(book, [[], []])
        self.assert_goes(book, [[ON_SHIRT], [OFF_SHIRT]])
        self.assert_goes(book, [[]], 1)
        self.assert_goes(book, [], 2)

    def test_too_short(self):
        book = tiny((BARE,), 1, 2)
        self.assert_goes_not(book, [])
        self.assert_goes_not(book, [[ON_SHIRT]])
        self.assert_goes_not(book, [], 1)

    def test_too_long(self):
        book = tiny((BARE,), 1, 2)
        self.assert_goes_not(book, [[], [], []])
        self.assert_goes_not(book, [[], []], 1)
        self.assert_goes_not(book, [[]], 2)

    def test_a_beat_that_is_not_let_by(self):
        book = tiny((SHIRT_COAT, BARE), 2, 1)
        self.assert_goes(book, [[OFF_COAT]])
        for beat in (
            [(2, "on", 0)], [(-1, "off", 1)], [(True, "off", 1)],       # no player
            [(0, "up", 1)], [(0, "", 1)],                               # another word
            [(0, "off", 2)], [(0, "on", -1)], [(0, "off", True)],       # no garment
            [ON_SHIRT], [(1, "on", 0)],                                 # worn by the same player, by another
            [(1, "off", 1)],                                            # not worn by this one
            [OFF_SHIRT],                                                # covered
            [OFF_COAT, OFF_COAT], [OFF_COAT, (1, "on", 1)],             # the same garment twice, not let by alone
        ):
            self.assert_goes_not(book, [beat])

    def test_a_crossed_beat(self):
        book = tiny((BARE, BARE), 2, 1)
        self.assert_goes(book, [[ON_SHIRT, (1, "on", 1)]])
        self.assert_goes_not(book, [[ON_SHIRT, ON_COAT]])
        self.assert_goes_not(book, [[ON_SHIRT, (1, "on", 0)]])
        self.assert_goes_not(book, [[ON_SHIRT, ON_SHIRT]])

    def test_a_later_beat_that_is_not_let_by(self):
        book = tiny((BARE,), 1, 3)
        self.assert_goes(book, [[ON_SHIRT], [ON_COAT], [OFF_COAT]])
        self.assert_goes_not(book, [[ON_SHIRT], [ON_SHIRT], []])
        self.assert_goes_not(book, [[ON_SHIRT], [ON_COAT], [OFF_SHIRT]])

    def test_hands_are_lacking(self):
        beat = [ON_SHIRT, (1, "on", 1)]
        self.assert_goes(tiny((BARE, BARE), 2, 1), [beat])
        self.assert_goes_not(tiny((BARE, BARE), 1, 1), [beat])
        self.assert_goes_not(tiny((BARE, BARE), 0, 1), [[ON_SHIRT]])
        self.assert_goes(tiny((BARE, BARE), 0, 1), [[]])
        self.assert_goes_not(tiny((BARE, BARE), 1, 2), [[], beat])

    def test_deeds_in_any_order(self):
        self.assert_goes(tiny((BARE, BARE), 2, 1), [[(1, "on", 1), ON_SHIRT]])

    def test_a_scene_at_the_first_moment(self):
        book = tiny((BARE,), 1, 1, (0, [("see", 0, 0, 0)]))
        self.assert_goes_not(book, [[ON_SHIRT]])
        self.assert_goes(book, [[]], 0, (SHIRT,))

    def test_a_scene_at_a_later_moment(self):
        book = tiny((BARE,), 1, 3, (2, [("see", 0, 0, 0)]))
        self.assert_goes(book, [[], [ON_SHIRT], [OFF_SHIRT]])
        self.assert_goes(book, [[ON_SHIRT], [], []])
        self.assert_goes_not(book, [[], [], [ON_SHIRT]])
        self.assert_goes_not(book, [[ON_SHIRT], [OFF_SHIRT], [ON_SHIRT]])

    def test_a_scene_at_the_last_moment(self):
        book = tiny((BARE,), 1, 2, (2, [("stand", 0, [0, 1])]))
        self.assert_goes(book, [[ON_SHIRT], [ON_COAT]])
        self.assert_goes_not(book, [[ON_COAT], [ON_SHIRT]])
        self.assert_goes_not(book, [[ON_SHIRT], []])

    def test_several_scenes_at_a_moment(self):
        book = tiny((BARE,), 1, 1, (1, [("see", 0, 0, 0)]), (1, []), (1, [("bare", 0, 1)]))
        self.assert_goes(book, [[ON_SHIRT]])
        self.assert_goes_not(book, [[]])
        self.assert_goes_not(book, [[ON_COAT]])
        self.assert_goes_not(tiny((BARE,), 1, 1, (1, [("see", 0, 0, 0)]), (1, [("bare", 0, 0)])), [[ON_SHIRT]])

    def test_scenes_of_earlier_moments_are_not_asked(self):
        book = tiny((BARE,), 1, 2, (0, NOTHING), (1, [("see", 0, 0, 0)]))
        self.assert_goes(book, [[]], 1, (SHIRT,))
        self.assert_goes_not(book, [[]], 1, (BARE,))
        self.assert_goes(book, [], 2, (BARE,))

    def test_the_last_moment(self):
        book = tiny((BARE,), 1, 2, (2, [("see", 0, 0, 1)]))
        self.assert_goes(book, [], 2, (COAT,))
        self.assert_goes_not(book, [], 2, (BARE,))

    def test_beyond_the_last_moment(self):
        book = tiny((BARE,), 1, 2, (2, [("see", 0, 0, 1)]))
        self.assert_goes(book, [], 3)
        self.assert_goes_not(book, [[]], 3)

    def test_another_standing_than_the_start(self):
        self.assert_goes(tiny((BARE,), 1, 1), [[OFF_COAT]], 0, (SHIRT_COAT,))
        self.assert_goes_not(tiny((SHIRT_COAT,), 1, 1), [[OFF_COAT]], 0, (SHIRT,))

    def test_by_argument_names(self):
        book = tiny((BARE,), 1, 1)
        self.assertIs(goes_with(book=book, moment=0, standing=(BARE,), beats=[[ON_COAT]]), True)

    def test_it_is_not_refused_for_many_standings(self):
        self.assert_goes(one_above_at_1(1), [[]])


class Plans(Asking):
    def assert_plan(self, book, trouble, beats):
        self.assertEqual(self.told(plan_of, book), ("plan", trouble, beats))

    def assert_none(self, book, moment):
        self.assertEqual(self.told(plan_of, book), ("none", moment))

    def test_no_beats_and_no_scenes(self):
        self.assert_plan(tiny((SHIRT,), 1, 0), 0, [])

    def test_no_scenes(self):
        self.assert_plan(tiny((SHIRT,), 1, 3), 0, [[], [], []])

    def test_beats_told_are_lists_of_their_own(self):
        beats = plan_of(tiny((SHIRT,), 1, 3))[2]
        beats[0].append("spoiled")
        self.assertEqual(beats, [["spoiled"], [], []])

    def test_no_garments(self):
        self.assert_plan(Book(Wardrobe(1, []), [], (((),),), 1, 1, [(1, [("bare", 0, 0)])]), 0, [[]])

    def test_see(self):
        self.assert_plan(tiny((BARE,), 1, 1, (1, [("see", 0, 1, 1)])), 4, [[ON_COAT]])

    def test_bare(self):
        self.assert_plan(tiny((SHIRT_COAT,), 1, 2, (2, [("bare", 0, 0)])), 10, [[OFF_COAT], [OFF_SHIRT]])

    def test_stand(self):
        self.assert_plan(
            tiny((COAT_SHIRT,), 2, 4, (4, [("stand", 0, [0, 1])])),
            15, [[OFF_SHIRT], [OFF_COAT], [ON_SHIRT], [ON_COAT]],
        )

    def test_a_beat_of_several_deeds(self):
        wishes = [("see", 0, 0, 1), ("see", 1, 0, 0)]
        self.assert_plan(tiny((BARE, BARE), 2, 1, (1, wishes)), 5, [[ON_COAT, (1, "on", 0)]])
        self.assert_none(tiny((BARE, BARE), 1, 1, (1, wishes)), 0)

    def test_deeds_of_a_beat_are_sorted(self):
        wardrobe = Wardrobe(3, [[0], [1], [2]])
        start = (((0,), (), ()), ((), (1,), ()))
        wishes = [("see", 1, 2, 2), ("bare", 0, 0), ("bare", 1, 1)]
        beats = [[(0, "off", 0), (1, "off", 1), (1, "on", 2)]]
        self.assert_plan(Book(wardrobe, [(1, 1)] * 3, start, 3, 1, [(1, wishes)]), 3, beats)

    def test_scenes_on_the_way(self):
        scenes = [(0, [("see", 0, 0, 0)]), (1, [("see", 0, 0, 1)]), (2, [("see", 0, 0, 0)]), (3, [("bare", 0, 0)])]
        self.assert_plan(tiny((SHIRT,), 1, 3, *scenes), 14, [[ON_COAT], [OFF_COAT], [OFF_SHIRT]])

    def test_several_scenes_at_a_moment(self):
        scenes = [(1, [("see", 0, 0, 0)]), (1, []), (1, [("bare", 0, 1)])]
        self.assert_plan(tiny((BARE,), 1, 1, *scenes), 1, [[ON_SHIRT]])
        self.assert_none(tiny((BARE,), 1, 1, *scenes, (1, [("bare", 0, 0)])), 0)

    def test_the_least_trouble_of_several(self):
        # The coat may go over the shirt and come off again for 12; the shirt goes below and then over it for 7.
        shirt_again = (3, [("see", 0, 0, 0)])
        beats = [[OFF_SHIRT], [ON_COAT], [ON_SHIRT]]
        self.assert_plan(tiny((SHIRT,), 1, 3, (2, [("see", 0, 0, 1)]), shirt_again), 7, beats)
        # Where the coat is to be seen earlier, there is no time for that.
        beats = [[ON_COAT], [], [OFF_COAT]]
        scenes = [(1, [("see", 0, 0, 1)]), (2, [("see", 0, 0, 1)]), shirt_again]
        self.assert_plan(tiny((SHIRT,), 1, 3, *scenes), 12, beats)

    def test_what_is_put_on_early_waits(self):
        answer = self.told(plan_of, tiny((BARE,), 1, 4, (4, [("stand", 0, [0, 1])])))
        self.assertEqual(answer[:2], ("plan", 5))
        self.assertEqual([deed for beat in answer[2] for deed in beat], [ON_SHIRT, ON_COAT])
        self.assertEqual(len(answer[2]), 4)

    def test_deeds_that_cost_nothing(self):
        book = Book(Wardrobe(1, [[0]]), [(0, 0)], (((),),), 1, 2, [(1, [("see", 0, 0, 0)]), (2, [("bare", 0, 0)])])
        self.assert_plan(book, 0, [[ON_SHIRT], [OFF_SHIRT]])

    def test_large_prices(self):
        scenes = [(1, [("see", 0, 0, 0)]), (2, [("bare", 0, 0)])]
        book = Book(Wardrobe(1, [[0]]), [(10 ** 6, 10 ** 6)], (((),),), 1, 2, scenes)
        self.assert_plan(book, 2 * 10 ** 6, [[ON_SHIRT], [OFF_SHIRT]])

    def test_no_dresser(self):
        self.assert_plan(tiny((COAT,), 0, 2, (1, [("see", 0, 0, 1)])), 0, [[], []])
        self.assert_none(tiny((COAT,), 0, 2, (1, [("bare", 0, 0)])), 0)
        self.assert_none(tiny((COAT,), 0, 2, (2, [("bare", 0, 0)])), 1)

    def test_none_at_moment_0(self):
        self.assert_none(tiny((BARE,), 1, 2, (0, [("see", 0, 0, 0)])), -1)
        self.assert_none(tiny((BARE,), 1, 0, (0, [("see", 0, 0, 0)])), -1)

    def test_none_behind_some_beats(self):
        self.assert_none(tiny((BARE,), 1, 5, (1, [("stand", 0, [0, 1])])), 0)
        self.assert_none(tiny((COAT,), 1, 5, (2, [("stand", 0, [0, 1])])), 1)

    def test_none_at_the_end(self):
        self.assert_none(tiny((COAT,), 1, 2, (2, [("stand", 0, [0, 1])])), 1)
        self.assert_none(tiny((BARE,), 1, 12, (12, NOTHING)), 11)

    def test_none_of_two_scenes_that_can_each_be_seen(self):
        scenes = [(1, [("see", 0, 0, 0)]), (2, [("stand", 0, [1])])]
        self.assert_none(tiny((BARE,), 1, 2, *scenes), 1)
        self.assert_plan(tiny((BARE,), 1, 2, scenes[0]), 1, [[ON_SHIRT], []])

    def test_the_moment_is_that_of_the_row_that_comes_farthest(self):
        # Nothing forbids the coat at moment 1; but only the shirt leads on past moment 2.
        scenes = [(1, [("see", 0, 0, 1)]), (2, [("see", 0, 0, 0)]), (3, [("stand", 0, [0])])]
        self.assert_none(tiny((BARE,), 1, 3, *scenes), 2)

    def test_two_scenes_that_can_not_be_seen(self):
        self.assert_none(tiny((BARE,), 1, 4, (2, NOTHING), (3, NOTHING)), 1)

    def test_one_wish_against_another_player(self):
        # There is one shirt, and both are to be seen in it.
        wishes = [("see", 0, 0, 0), ("see", 1, 0, 0)]
        self.assert_none(tiny((BARE, BARE), 6, 3, (3, wishes)), 2)

    def test_a_house(self):
        book = Book(
            house(), [(1, 1), (1, 1), (3, 2), (1, 1), (1, 1), (6, 5)], dressed_house([0, 1, 2], [4]), 2, 3,
            [(2, [("stand", 0, [0, 1, 4])]), (3, [("see", 1, 2, 2), ("see", 0, 1, 3)])],
        )
        answer = self.told(plan_of, book)
        # Off with the coat, the shoes go over to the first player; the coat to the second one, the scarf to the first.
        self.assertEqual(answer[:2], ("plan", 2 + 1 + 1 + 3 + 1))
        self.assertIs(goes_with(book, 0, book.start, answer[2]), True)

    def test_a_large_book(self):
        scenes = [(0, [])] + [(moment, [("bare", 0, 0)]) for moment in (2, 5, 8, 10)] + [(12, [("stand", 0, [0, 1])])]
        book = Book(wide(), [(1, 1)] * 6, dressed_wide([2]), 1, 12, scenes)
        self.assertEqual(self.told(plan_of, book)[:2], ("plan", 3))

    def test_by_argument_names(self):
        self.assertEqual(plan_of(book=tiny((BARE,), 1, 1)), ("plan", 0, [[]]))
        self.assertEqual(plan_from(book=tiny((BARE,), 1, 1), moment=1, standing=(COAT,)), ("plan", 0, []))


class PlansFrom(Asking):
    def assert_plan(self, book, moment, standing, trouble, beats):
        self.assertEqual(self.told(plan_from, book, moment, standing), ("plan", trouble, beats))

    def assert_none(self, book, moment, standing, told):
        self.assertEqual(self.told(plan_from, book, moment, standing), ("none", told))

    def test_from_moment_0(self):
        book = tiny((BARE,), 1, 1, (1, [("see", 0, 0, 0)]))
        self.assert_plan(book, 0, (BARE,), 1, [[ON_SHIRT]])
        self.assert_plan(book, 0, (SHIRT,), 0, [[]])
        self.assert_plan(book, 0, (SHIRT_COAT,), 8, [[OFF_COAT]])

    def test_from_a_later_moment(self):
        book = tiny((BARE,), 1, 3, (0, NOTHING), (3, [("see", 0, 0, 0)]))
        self.assert_plan(book, 2, (BARE,), 1, [[ON_SHIRT]])
        self.assert_plan(book, 2, (SHIRT,), 0, [[]])
        self.assert_plan(book, 1, (COAT,), 1, [[], [ON_SHIRT]])

    def test_from_the_last_moment(self):
        book = tiny((BARE,), 1, 3, (1, NOTHING), (3, [("see", 0, 0, 0)]))
        self.assert_plan(book, 3, (SHIRT,), 0, [])
        self.assert_plan(book, 3, (COAT_SHIRT,), 0, [])
        self.assert_none(book, 3, (BARE,), 2)
        self.assert_plan(tiny((BARE,), 1, 3), 3, (BARE,), 0, [])

    def test_from_beyond_the_last_moment(self):
        self.assert_plan(tiny((BARE,), 1, 2, (2, NOTHING)), 3, (BARE,), 0, [])

    def test_scenes_of_this_moment_are_asked(self):
        book = tiny((BARE,), 1, 3, (2, [("see", 0, 0, 0)]))
        self.assert_none(book, 2, (BARE,), 1)
        self.assert_plan(book, 2, (SHIRT,), 0, [[]])

    def test_none_is_told_by_the_books_moments(self):
        book = tiny((BARE,), 1, 4, (3, [("stand", 0, [0, 1])]))
        self.assert_none(book, 2, (BARE,), 2)
        self.assert_none(book, 3, (BARE,), 2)
        self.assert_none(book, 1, (COAT,), 2)
        self.assert_plan(book, 1, (BARE,), 5, [[ON_SHIRT], [ON_COAT], []])

    def test_the_start_is_not_asked(self):
        book = tiny((SHIRT,), 1, 1, (1, [("see", 0, 0, 0)]))
        self.assert_plan(book, 0, (COAT,), 1, [[ON_SHIRT]])

    def test_of_a_book_is_that_from_its_start(self):
        for book in drawn_books(21, 60, small_wardrobes(), 2, 3):
            self.assertEqual(self.told(plan_of, book), plan_from(book, 0, book.start))


class TooManyStandings(Asking):
    def test_just_300(self):
        self.assertEqual(self.told(plan_of, just_300_at_1(1)), ("plan", 0, [[]]))
        self.assertEqual(self.told(plan_of, just_300_at_4(4)), ("plan", 0, [[]] * 4))

    def test_more_at_moment_1(self):
        self.refused(TooMany, plan_of, one_above_at_1(1), moment=1)
        self.refused(TooMany, plan_of, one_above_at_1(12, (1, NOTHING)), moment=1)

    def test_more_at_a_later_moment(self):
        self.refused(TooMany, plan_of, one_above_at_4(4), moment=4)
        self.refused(TooMany, plan_of, just_300_at_4(5), moment=5)
        self.assertEqual(self.told(plan_of, one_above_at_4(3)), ("plan", 0, [[]] * 3))

    def test_refused_rather_than_none(self):
        self.refused(TooMany, plan_of, one_above_at_4(6, (5, NOTHING)), moment=4)
        self.assertEqual(self.told(plan_of, one_above_at_4(6, (3, NOTHING))), ("none", 2))

    def test_the_moment_is_the_books(self):
        book = one_above_at_1(6)
        for moment in range(6):
            self.refused(TooMany, plan_from, book, moment, book.start, moment=moment + 1)
        self.assertEqual(self.told(plan_from, book, 6, book.start), ("plan", 0, []))

    def test_the_standings_are_those_from_there(self):
        book = one_above_at_4(6)
        self.refused(TooMany, plan_from, book, 2, book.start, moment=6)
        self.assertEqual(self.told(plan_from, book, 3, book.start), ("plan", 0, [[]] * 3))

    def test_only_behind_an_empty_slice(self):
        self.assertEqual(self.told(plan_of, one_above_at_1(3, (0, NOTHING))), ("none", -1))
        book = one_above_at_1(3, (2, NOTHING))
        self.assertEqual(self.told(plan_from, book, 2, book.start), ("none", 1))

    def test_many_dressers(self):
        covers = [[place] for place in range(6)]
        self.refused(TooMany, plan_of, counted(covers, 6, [[], [], []], 6, 2, [(0, [])]), moment=1)


class EveryRow(unittest.TestCase):
    """Over many small books, by the document's words."""

    def test_goes_with(self):
        # All rows of up to two beats of up to two deeds of whatever kind, let by or not.
        deeds = [(player, word, garment) for player in (0, 1) for word in ("off", "on") for garment in (0, 1, 2)]
        beats = [[]] + [[deed] for deed in deeds] + [list(pair) for pair in product(deeds, repeat=2) if pair[0][0] == 0]
        for start, scenes in (
            ((SHIRT, COAT), []),
            ((SHIRT, COAT), [(1, [("bare", 0, 0)]), (2, [("see", 1, 0, 0)])]),
            ((SHIRT_COAT, BARE), [(2, [("stand", 0, [0])])]),
        ):
            for dressers in (1, 2):
                book = tiny(start, dressers, 2, *scenes)
                fitting = list(fitting_rows(book, 0, start))
                count = 0
                for row in product(beats, repeat=2):
                    goes = goes_with(book, 0, start, list(row))
                    self.assertIs(goes, [sorted(beat) for beat in row] in fitting, (start, scenes, row))
                    count += goes
                self.assertGreater(count, 0)

    def test_goes_with_every_fitting_row(self):
        for book in drawn_books(22, 60, small_wardrobes(), 2, 2):
            for row in fitting_rows(book, 0, book.start):
                self.assertIs(goes_with(book, 0, book.start, row), True)

    def test_no_row_of_beats_has_less_trouble(self):
        plans = 0
        for book in drawn_books(23, 200, small_wardrobes(), 2, 2):
            costs = [cost(book, beats) for beats in fitting_rows(book, 0, book.start)]
            answer = plan_of(book)
            if answer[0] == "plan":
                plans += 1
                self.assertIn(answer[2], list(fitting_rows(book, 0, book.start)))
                self.assertEqual(answer[1], cost(book, answer[2]))
                self.assertEqual(answer[1], min(costs))
            else:
                self.assertEqual(costs, [])
                self.assertEqual(answer, ("none", self.farthest(book)))
        self.assertGreater(plans, 50)
        self.assertLess(plans, 150)

    def farthest(self, book):
        """The last moment up to which some row of beats does all that is asked."""
        moments = [-1]
        for moment in range(book.beats + 1):
            scenes = [scene for scene in book.scenes if scene[0] <= moment]
            part = Book(book.wardrobe, book.prices, book.start, book.dressers, moment, scenes)
            if any(True for row in fitting_rows(part, 0, part.start)):
                moments.append(moment)
        self.assertEqual(moments, list(range(-1, len(moments) - 1)))
        return moments[-1]

    def test_from_each_moment_and_standing(self):
        books = drawn_books(24, 40, small_wardrobes(), 2, 4) + drawn_books(25, 15, larger_wardrobes(), 1, 4)
        for book in books:
            for moment in range(book.beats + 1):
                for standing in all_standings(book.wardrobe, len(book.start))[::3]:
                    self.assert_by_words(book, moment, standing)

    def test_many_books(self):
        books = drawn_books(26, 300, small_wardrobes(), 3, 6) + drawn_books(27, 150, larger_wardrobes(), 2, 4)
        for book in books:
            self.assert_by_words(book, 0, book.start)

    def assert_by_words(self, book, moment, standing):
        parts = [behind for before, behind in walked(book, moment, standing)]
        answer = plan_from(book, moment, standing)
        if {} in parts:
            self.assertEqual(answer, ("none", moment + parts.index({}) - 1))
        else:
            self.assertEqual(answer[:2], ("plan", min(parts[-1].values())))
            self.assert_goes(book, moment, standing, answer[2])
            self.assertEqual(answer[1], cost(book, answer[2]))

    def assert_goes(self, book, moment, standing, beats):
        self.assertEqual(len(beats), book.beats - moment)
        self.assertIs(goes_with(book, moment, standing, beats), True)
        for passed, beat in enumerate(beats):
            at = after_beats(book.wardrobe, standing, beats[:passed])
            self.assertIn(beat, all_beats(book.wardrobe, at, book.dressers))


class Never(unittest.TestCase):
    """Point 24: with more dressers, more beats, fewer wishes a plan's trouble never grows, and no plan is lost."""

    def assert_no_worse(self, book, other):
        before, behind = plan_of(book), plan_of(other)
        if before[0] == "plan":
            self.assertEqual(behind[0], "plan")
            self.assertLessEqual(behind[1], before[1])

    def books(self):
        return drawn_books(31, 250, small_wardrobes(), 2, 4) + drawn_books(32, 60, larger_wardrobes(), 2, 3)

    def test_with_more_dressers(self):
        for book in self.books():
            more = Book(book.wardrobe, book.prices, book.start, book.dressers + 1, book.beats, book.scenes)
            self.assert_no_worse(book, more)

    def test_with_more_beats(self):
        for book in self.books():
            for moment in range(book.beats + 1):
                scenes = [(when + (when > moment), wishes) for when, wishes in book.scenes]
                longer = Book(book.wardrobe, book.prices, book.start, book.dressers, book.beats + 1, scenes)
                self.assert_no_worse(book, longer)

    def test_with_fewer_wishes(self):
        for book in self.books():
            for number, (moment, wishes) in enumerate(book.scenes):
                for wish in range(len(wishes)):
                    scenes = list(book.scenes)
                    scenes[number] = (moment, wishes[:wish] + wishes[wish + 1:])
                    fewer = Book(book.wardrobe, book.prices, book.start, book.dressers, book.beats, scenes)
                    self.assert_no_worse(book, fewer)


if __name__ == "__main__":
    unittest.main()
