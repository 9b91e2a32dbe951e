"""Points 14 and 15, and point 3 of beats: which beats are let by, what comes of them, and all of them."""

import unittest
from itertools import permutations

from helping import (
    NO_NUMBERS, Asking, after_all, all_beats, all_deeds, all_standings, dressed_house, dressed_wide, every_standing,
    house, larger_wardrobes, may_be_at_once, small_wardrobes, wide,
)
from quickchange.beats import beat_done, beats_at
from quickchange.errors import Covered, Crossed, NoDeed, NoGarment, NotWorn, WardrobeError, Worn
from quickchange.wardrobe import Wardrobe


class BeatDone(Asking):
    def test_the_empty_beat(self):
        for standing in (dressed_house([]), dressed_house([5, 0], [3], [4])):
            self.assertEqual(self.told(beat_done, house(), standing, []), standing)
        self.assertEqual(self.told(beat_done, Wardrobe(1, []), (((),),), []), (((),),))

    def test_one_deed(self):
        standing = dressed_house([5, 0], [])
        self.assertEqual(self.told(beat_done, house(), standing, [(0, "off", 0)]), dressed_house([5], []))
        self.assertEqual(self.told(beat_done, house(), standing, [(1, "on", 3)]), dressed_house([5, 0], [3]))

    def test_deeds_of_several_players(self):
        # Shirt and coat meet, but not on two players.
        beat = [(0, "on", 0), (1, "on", 2), (2, "off", 3)]
        answer = self.told(beat_done, house(), dressed_house([], [], [3]), beat)
        self.assertEqual(answer, dressed_house([0], [2], []))

    def test_deeds_of_one_player_that_do_not_meet(self):
        beat = [(0, "on", 4), (0, "off", 0), (0, "on", 1)]
        self.assertEqual(self.told(beat_done, house(), dressed_house([3, 0]), beat), dressed_house([3, 4, 1]))

    def test_the_order_of_the_deeds_does_not_count(self):
        beat = [(0, "on", 4), (0, "off", 0), (1, "on", 1), (1, "off", 3)]
        for deeds in permutations(beat):
            answer = self.told(beat_done, house(), dressed_house([0], [3]), list(deeds))
            self.assertEqual(answer, dressed_house([4], [1]))

    def test_six_deeds_at_six_places(self):
        wardrobe = Wardrobe(6, [[place] for place in range(6)])
        beat = [(0, "on", garment) for garment in range(6)]
        answer = self.told(beat_done, wardrobe, (((),) * 6,), beat)
        self.assertEqual(answer, (((0,), (1,), (2,), (3,), (4,), (5,)),))
        back = [(0, "off", garment) for garment in (3, 1, 5, 0, 2, 4)]
        self.assertEqual(self.told(beat_done, wardrobe, answer, back), (((),) * 6,))

    def test_six_places_and_three_players(self):
        beat = [(2, "on", 2), (1, "off", 5), (1, "off", 4), (0, "on", 3)]
        answer = self.told(beat_done, wide(), dressed_wide([0], [4, 5], []), beat)
        self.assertEqual(answer, dressed_wide([0, 3], [], [2]))

    def test_by_argument_names(self):
        answer = beat_done(wardrobe=house(), standing=dressed_house([]), beat=[(0, "on", 0)])
        self.assertEqual(answer, dressed_house([0]))


class DeedRefused(Asking):
    def setUp(self):
        self.standing = dressed_house([0, 2], [3])

    def refused_beat(self, error, beat, **fields):
        self.refused(error, beat_done, house(), self.standing, beat, **fields)

    def test_no_player(self):
        for player in NO_NUMBERS + (2,):
            self.refused_beat(NoDeed, [(1, "on", 4), (player, "on", 1)])

    def test_another_word(self):
        for word in ("", "On", "put", None, 0, True, ["on"]):
            self.refused_beat(NoDeed, [(1, "on", 4), (0, word, 1)])

    def test_no_garment(self):
        for garment in NO_NUMBERS:
            for word in ("on", "off"):
                self.refused_beat(NoGarment, [(1, "on", 4), (0, word, garment)], garment=garment)

    def test_worn(self):
        for player in (0, 1):
            for garment in (0, 2, 3):
                self.refused_beat(Worn, [(1, "on", 4), (player, "on", garment)], garment=garment)

    def test_not_worn(self):
        for player, garment in ((0, 3), (1, 0), (0, 5)):
            self.refused_beat(NotWorn, [(1, "on", 4), (player, "off", garment)], garment=garment)

    def test_covered(self):
        self.refused_beat(Covered, [(1, "on", 4), (0, "off", 0)], garment=0, over=2)

    def test_each_has_to_be_let_by_alone(self):
        # Done one behind the other these would be let by; at once they aren't.
        self.refused_beat(Covered, [(0, "off", 2), (0, "off", 0)], garment=0, over=2)
        self.refused_beat(Worn, [(1, "off", 3), (0, "on", 3)], garment=3)
        self.refused_beat(NotWorn, [(0, "on", 4), (0, "off", 4)], garment=4)

    def test_the_first_one_that_is_refused(self):
        self.refused_beat(NotWorn, [(1, "on", 4), (1, "off", 1), (5, "on", 1), (0, "on", 9)], garment=1)
        self.refused_beat(NoDeed, [(1, "on", 4), (5, "on", 1), (1, "off", 1), (0, "on", 9)])
        self.refused_beat(NoGarment, [(0, "on", 9), (1, "off", 1), (5, "on", 1)], garment=9)

    def test_a_deed_goes_ahead_of_two_that_are_crossed(self):
        self.refused_beat(Covered, [(1, "on", 4), (1, "on", 4), (0, "off", 0)], garment=0, over=2)
        self.refused_beat(NoDeed, [(1, "on", 1), (1, "on", 5), (0, "by", 0)])
        self.refused_beat(NoGarment, [(1, "on", 1), (1, "on", 1), (0, "on", None)], garment=None)


class CrossedDeeds(Asking):
    def crossed(self, standing, beat, first, second):
        self.refused(Crossed, beat_done, house(), standing, beat, first=first, second=second)

    def test_the_same_deed_twice(self):
        self.crossed(dressed_house([]), [(0, "on", 0), (0, "on", 0)], 0, 1)
        self.crossed(dressed_house([0]), [(0, "off", 0), (0, "off", 0)], 0, 1)

    def test_the_same_garment_for_two_players(self):
        self.crossed(dressed_house([], []), [(0, "on", 4), (1, "on", 4)], 0, 1)

    def test_two_of_one_player_that_meet(self):
        self.crossed(dressed_house([]), [(0, "on", 0), (0, "on", 2)], 0, 1)
        self.crossed(dressed_house([0]), [(0, "off", 0), (0, "on", 2)], 0, 1)
        self.crossed(dressed_house([], [5]), [(1, "off", 5), (1, "on", 4)], 0, 1)

    def test_the_least_first_then_the_least_second(self):
        bare = dressed_house([], [])
        # 0 crosses the last, 1 crosses 2.
        self.crossed(bare, [(0, "on", 0), (1, "on", 1), (1, "on", 5), (0, "on", 2)], 0, 3)
        # 0 crosses both 2 and 3.
        self.crossed(bare, [(0, "on", 0), (1, "on", 4), (0, "on", 3), (0, "on", 2)], 0, 2)
        # 0 and 1 cross nothing.
        self.crossed(bare, [(0, "on", 4), (1, "on", 1), (0, "on", 3), (0, "on", 2)], 2, 3)
        # 1 crosses 3, and 2 crosses 3, too.
        self.crossed(bare, [(1, "on", 4), (0, "on", 0), (0, "on", 1), (0, "on", 2)], 1, 3)

    def test_others_between(self):
        self.crossed(dressed_house([], [], []), [(0, "on", 4), (1, "on", 0), (2, "on", 4)], 0, 2)


class BeatsAt(Asking):
    def test_a_most_of_nought(self):
        for standing in (dressed_house([]), dressed_house([5, 0], [3], [4])):
            self.assertEqual(self.told(beats_at, house(), standing, 0), [[]])

    def test_no_garments(self):
        for most in (0, 1, 6):
            self.assertEqual(self.told(beats_at, Wardrobe(1, []), (((),), ((),)), most), [[]])

    def test_one_garment_and_three_players(self):
        wardrobe = Wardrobe(1, [[0]])
        bare = (((),), ((),), ((),))
        beats = [[], [(0, "on", 0)], [(1, "on", 0)], [(2, "on", 0)]]
        for most in (1, 2, 6):
            self.assertEqual(self.told(beats_at, wardrobe, bare, most), beats)
        self.assertEqual(self.told(beats_at, wardrobe, (((),), ((0,),), ((),)), 6), [[], [(1, "off", 0)]])

    def test_two_garments_that_do_not_meet(self):
        wardrobe = Wardrobe(2, [[0], [1]])
        standing = (((), (1,)),)
        self.assertEqual(self.told(beats_at, wardrobe, standing, 1), [[], [(0, "off", 1)], [(0, "on", 0)]])
        beats = [[], [(0, "off", 1)], [(0, "off", 1), (0, "on", 0)], [(0, "on", 0)]]
        self.assertEqual(self.told(beats_at, wardrobe, standing, 2), beats)

    def test_two_garments_that_meet(self):
        wardrobe = Wardrobe(1, [[0], [0]])
        beats = [[], [(0, "on", 0)], [(0, "on", 1)]]
        self.assertEqual(self.told(beats_at, wardrobe, (((),),), 2), beats)
        # What lies over it keeps garment 0 on.
        self.assertEqual(self.told(beats_at, wardrobe, (((0, 1),),), 2), [[], [(0, "off", 1)]])

    def test_two_players(self):
        wardrobe = Wardrobe(1, [[0], [0]])
        beats = [
            [], [(0, "off", 0)], [(0, "off", 0), (1, "on", 1)], [(0, "on", 1)], [(1, "on", 1)],
        ]
        self.assertEqual(self.told(beats_at, wardrobe, (((0,),), ((),)), 2), beats)

    def test_more_than_can_be(self):
        wardrobe = Wardrobe(2, [[0], [1]])
        bare = (((), ()),)
        self.assertEqual(self.told(beats_at, wardrobe, bare, 10 ** 9), self.told(beats_at, wardrobe, bare, 2))

    def test_six_places_and_six_garments(self):
        wardrobe = Wardrobe(6, [[place] for place in range(6)])
        beats = self.told(beats_at, wardrobe, (((),) * 6,), 6)
        self.assertEqual(len(beats), 2 ** 6)
        self.assertEqual(beats[6], [(0, "on", garment) for garment in range(6)])
        self.assertEqual(len(self.told(beats_at, wardrobe, (((),) * 6,), 2)), 1 + 6 + 15)

    def test_lists_within_are_unlike_ones(self):
        beats = beats_at(house(), dressed_house([], []), 2)
        self.assertEqual(len({id(beat) for beat in beats}), len(beats))
        self.assertEqual({beat.__class__ for beat in beats}, {list})

    def test_by_argument_names(self):
        self.assertEqual(beats_at(wardrobe=house(), standing=dressed_house([]), most=0), [[]])


class EveryStanding(unittest.TestCase):
    def each(self):
        yield from every_standing()
        for wardrobe in larger_wardrobes():
            for standing in all_standings(wardrobe, 1):
                yield wardrobe, standing

    def test_just_the_beats_that_are_let_by(self):
        for wardrobe, standing in self.each():
            for most in range(wardrobe.many() + 2):
                self.assertEqual(beats_at(wardrobe, standing, most), all_beats(wardrobe, standing, most))

    def test_the_same_standing_in_whatever_order(self):
        for wardrobe, standing in self.each():
            for beat in all_beats(wardrobe, standing, 3):
                came = beat_done(wardrobe, standing, beat)
                for deeds in permutations(beat):
                    self.assertEqual(after_all(wardrobe, standing, deeds), came)
                    self.assertEqual(beat_done(wardrobe, standing, list(deeds)), came)

    def test_all_other_beats_are_refused(self):
        for wardrobe in small_wardrobes():
            deeds = all_deeds(wardrobe, 2)
            for standing in all_standings(wardrobe, 2):
                let_by = all_beats(wardrobe, standing, 2)
                for beat in [[one, other] for one in deeds for other in deeds]:
                    if sorted(beat) not in let_by:
                        self.assert_refused(wardrobe, standing, beat)

    def assert_refused(self, wardrobe, standing, beat):
        with self.assertRaises(WardrobeError) as caught:
            beat_done(wardrobe, standing, beat)
        alone = [after_all(wardrobe, standing, [deed]) is not None for deed in beat]
        self.assertEqual(isinstance(caught.exception, Crossed), all(alone))
        if all(alone):
            self.assertFalse(may_be_at_once(wardrobe, *beat))
        else:
            self.assertEqual(caught.exception.garment, beat[alone.index(False)][2])


if __name__ == "__main__":
    unittest.main()
