"""Point 10: standings, who wears what, and deeds."""

import unittest

from helping import (
    NO_NUMBERS, Asking, after, after_all, all_deeds, all_standings, dressed_house, every_standing, house, is_worn,
    wide,
)
from quickchange.errors import Covered, NoDeed, NoGarment, NotWorn, WardrobeError, Worn
from quickchange.standing import all_bare, deed_done, deeds_done, wearer
from quickchange.wardrobe import Wardrobe

BARE = ((), (), (), ())
NO_WORDS = ("", "On", "ON", "OFF", "put on", "of", "offf", " on", None, True, 0, 1, ["on"], ("on",), {})


class AllBare(Asking):
    def test_one_to_three_players(self):
        self.assertEqual(self.told(all_bare, house(), 1), (BARE,))
        self.assertEqual(self.told(all_bare, house(), 2), (BARE, BARE))
        self.assertEqual(self.told(all_bare, house(), 3), (BARE, BARE, BARE))

    def test_one_place_and_six(self):
        self.assertEqual(self.told(all_bare, Wardrobe(1, []), 2), (((),), ((),)))
        self.assertEqual(self.told(all_bare, wide(), 1), (((), (), (), (), (), ()),))

    def test_by_argument_names(self):
        self.assertEqual(all_bare(wardrobe=Wardrobe(1, []), players=1), (((),),))


class Wearer(Asking):
    def test_each_player(self):
        standing = dressed_house([3], [5, 0], [])
        self.assertEqual(self.told(wearer, standing, 3), 0)
        self.assertEqual(self.told(wearer, standing, 5), 1)
        self.assertEqual(self.told(wearer, standing, 0), 1)
        for garment in (1, 2, 4):
            self.assertIsNone(self.told(wearer, standing, garment))

    def test_the_first_and_the_last_player(self):
        for player in range(3):
            orders = [[], [], []]
            orders[player] = [4]
            self.assertEqual(self.told(wearer, dressed_house(*orders), 4), player)

    def test_nothing_is_worn(self):
        for players in (1, 2, 3):
            for garment in range(6):
                self.assertIsNone(wearer(all_bare(house(), players), garment))

    def test_by_argument_names(self):
        self.assertEqual(wearer(standing=dressed_house([1]), garment=1), 0)


class DeedDone(Asking):
    def test_on(self):
        bare = all_bare(house(), 2)
        self.assertEqual(self.told(deed_done, house(), bare, (0, "on", 3)), dressed_house([3], []))
        self.assertEqual(self.told(deed_done, house(), bare, (1, "on", 3)), dressed_house([], [3]))
        standing = dressed_house([3], [5])
        self.assertEqual(self.told(deed_done, house(), standing, (1, "on", 0)), dressed_house([3], [5, 0]))

    def test_off(self):
        standing = dressed_house([3, 0], [5])
        self.assertEqual(self.told(deed_done, house(), standing, (0, "off", 0)), dressed_house([3], [5]))
        self.assertEqual(self.told(deed_done, house(), standing, (1, "off", 5)), dressed_house([3, 0], []))

    def test_six_places_and_three_players(self):
        standing = all_bare(wide(), 3)
        standing = self.told(deed_done, wide(), standing, (2, "on", 2))
        self.assertEqual(standing, (((),) * 6, ((),) * 6, ((2,),) * 6))
        standing = self.told(deed_done, wide(), standing, (2, "on", 5))
        self.assertEqual(standing[2], ((2,), (2,), (2, 5), (2,), (2, 5), (2,)))
        self.assertEqual(self.told(deed_done, wide(), standing, (2, "off", 5))[2], ((2,),) * 6)

    def test_a_standing_is_of_tuples(self):
        standing = deed_done(house(), all_bare(house(), 2), (0, "on", 2))
        self.assertIs(standing.__class__, tuple)
        for wearing in standing:
            self.assertIs(wearing.__class__, tuple)
            self.assertEqual({row.__class__ for row in wearing}, {tuple})

    def test_by_argument_names(self):
        answer = deed_done(wardrobe=house(), standing=(BARE,), deed=(0, "on", 0))
        self.assertEqual(answer, dressed_house([0]))


class DeedRefused(Asking):
    def test_no_player(self):
        for player in NO_NUMBERS + (2, 3):
            for word in ("on", "off"):
                self.refused(NoDeed, deed_done, house(), all_bare(house(), 2), (player, word, 0))

    def test_players_are_those_of_the_standing(self):
        for players in (1, 2, 3):
            bare = all_bare(house(), players)
            deed_done(house(), bare, (players - 1, "on", 0))
            self.refused(NoDeed, deed_done, house(), bare, (players, "on", 0))

    def test_another_word(self):
        for word in NO_WORDS:
            for garment in (0, 1):
                self.refused(NoDeed, deed_done, house(), dressed_house([0], []), (0, word, garment))

    def test_no_garment(self):
        for garment in NO_NUMBERS:
            for standing in (dressed_house([], []), dressed_house([0, 1], [2])):
                for word in ("on", "off"):
                    self.refused(NoGarment, deed_done, house(), standing, (0, word, garment), garment=garment)

    def test_no_deed_goes_ahead_of_no_garment(self):
        self.refused(NoDeed, deed_done, house(), dressed_house([0]), (1, "on", 9))
        self.refused(NoDeed, deed_done, house(), dressed_house([0]), (0, "under", 9))
        self.refused(NoDeed, deed_done, house(), dressed_house([0]), (1, "off", 0))
        self.refused(NoDeed, deed_done, house(), dressed_house([0]), (0, "under", 0))

    def test_on_what_any_player_wears(self):
        standing = dressed_house([3], [], [5, 0])
        for player in range(3):
            for garment in (3, 5, 0):
                self.refused(Worn, deed_done, house(), standing, (player, "on", garment), garment=garment)

    def test_off_what_this_player_does_not_wear(self):
        standing = dressed_house([3], [], [5, 0])
        for player, garment in ((0, 5), (0, 0), (1, 3), (1, 0), (2, 3), (0, 1), (1, 1), (2, 1)):
            self.refused(NotWorn, deed_done, house(), standing, (player, "off", garment), garment=garment)

    def test_covered(self):
        standing = dressed_house([3], [5, 4, 1, 0])
        self.refused(Covered, deed_done, house(), standing, (1, "off", 5), garment=5, over=0)
        # What another player wears covers nothing.
        self.assertEqual(deed_done(house(), standing, (0, "off", 3)), dressed_house([], [5, 4, 1, 0]))

    def test_no_garments_at_all(self):
        self.refused(NoGarment, deed_done, Wardrobe(1, []), (((),),), (0, "on", 0), garment=0)


class DeedsDone(Asking):
    def test_no_deeds(self):
        for standing in (all_bare(house(), 3), dressed_house([3], [5])):
            self.assertEqual(self.told(deeds_done, house(), standing, []), standing)

    def test_one_behind_the_other(self):
        deeds = [(0, "on", 0), (1, "on", 5), (0, "on", 2), (0, "off", 2), (1, "on", 2), (0, "on", 3)]
        standing = self.told(deeds_done, house(), all_bare(house(), 2), deeds)
        self.assertEqual(standing, dressed_house([0, 3], [5, 2]))

    def test_a_garment_goes_from_one_to_another(self):
        deeds = [(0, "off", 4), (2, "on", 4)]
        self.assertEqual(self.told(deeds_done, house(), dressed_house([4], [], []), deeds), dressed_house([], [], [4]))

    def test_the_first_one_that_is_refused(self):
        bare = all_bare(house(), 2)
        self.refused(Worn, deeds_done, house(), bare, [(0, "on", 0), (1, "on", 0), (5, "on", 1)], garment=0)
        self.refused(NoDeed, deeds_done, house(), bare, [(0, "on", 0), (5, "on", 1), (1, "on", 0)])
        self.refused(NotWorn, deeds_done, house(), bare, [(0, "on", 0), (1, "off", 0), (0, "on", 0)], garment=0)
        self.refused(NoGarment, deeds_done, house(), bare, [(0, "on", "x"), (0, "by", 0)], garment="x")
        deeds = [(0, "on", 0), (0, "on", 2), (0, "off", 0), (0, "off", 0)]
        self.refused(Covered, deeds_done, house(), bare, deeds, garment=0, over=2)

    def test_by_argument_names(self):
        answer = deeds_done(wardrobe=house(), standing=(BARE,), deeds=[(0, "on", 0)])
        self.assertEqual(answer, dressed_house([0]))


class EveryStanding(unittest.TestCase):
    def test_wearer(self):
        for wardrobe, standing in every_standing():
            for garment in range(wardrobe.many()):
                found = [player for player, wearing in enumerate(standing) if is_worn((wearing,), garment)]
                self.assertEqual([wearer(standing, garment)], found or [None])

    def test_every_deed(self):
        for wardrobe, standing in every_standing():
            for deed in all_deeds(wardrobe, len(standing)):
                came = after(wardrobe, standing, deed)
                if came is not None:
                    self.assertEqual(deed_done(wardrobe, standing, deed), came)
                else:
                    with self.assertRaises(self.refusal(standing, deed)) as caught:
                        deed_done(wardrobe, standing, deed)
                    self.assertEqual(caught.exception.garment, deed[2])

    def refusal(self, standing, deed):
        """The class with which a deed that isn't let by is refused."""
        player, word, garment = deed
        if word == "on":
            return Worn
        return Covered if is_worn((standing[player],), garment) else NotWorn

    def test_two_deeds_in_a_row(self):
        wardrobe = Wardrobe(2, [[0], [0, 1]])
        deeds = all_deeds(wardrobe, 2)
        for standing in all_standings(wardrobe, 2):
            for pair in [[one, other] for one in deeds for other in deeds]:
                came = after_all(wardrobe, standing, pair)
                if came is not None:
                    self.assertEqual(deeds_done(wardrobe, standing, pair), came)
                else:
                    with self.assertRaises(WardrobeError):
                        deeds_done(wardrobe, standing, pair)


if __name__ == "__main__":
    unittest.main()
