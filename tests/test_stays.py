"""Points 11, 12 and 13, and point 3 of standings: what may stay, why not, and the way with the least trouble."""

import unittest
from itertools import combinations, product

from helping import (
    Asking, after, after_all, all_deeds, all_standings, dressed_house, dressed_wide, house, modelled, small_wardrobes,
    wide, worlds,
)
from quickchange.stays import least_trouble, may_stay, reasons_why, trouble_of, way_between
from quickchange.wardrobe import Wardrobe

PRICES = [(1, 2), (3, 5), (7, 11), (13, 17), (19, 23), (29, 31)]


def worn_pairs(standing):
    """The pairs (player, garment) that are worn, sorted."""
    return sorted({(player, g) for player, wearing in enumerate(standing) for row in wearing for g in row})


def is_staying_set(wardrobe, one, other, pairs):
    """True where all that point 11 asks of a set holds for each of its pairs."""
    for player, garment in pairs:
        for place in wardrobe.covers(garment):
            row, goal = one[player][place], other[player][place]
            if garment not in row or garment not in goal:
                return False
            beneath = row[:row.index(garment)]
            if beneath != goal[:goal.index(garment)]:
                return False
            if not all((player, under) in pairs for under in beneath):
                return False
    return True


def greatest_staying(wardrobe, one, other):
    """The greatest such set: all such sets together."""
    worn = worn_pairs(one)
    found = set()
    for count in range(len(worn) + 1):
        for pairs in combinations(worn, count):
            if is_staying_set(wardrobe, one, other, pairs):
                found.update(pairs)
    return sorted(found)


def is_reason(wardrobe, one, other, reason, staying):
    """True where a told reason is one."""
    player, garment, place, under = reason
    if place not in wardrobe.covers(garment):
        return False
    row, goal = one[player][place], other[player][place]
    beneath = row[:row.index(garment)]
    if under is None:
        return goal[:len(beneath) + 1] != beneath + (garment,)
    return under in beneath and (player, under) not in staying


def least_from(wardrobe, prices, start):
    """For each standing the least trouble of any way to it, found by trying all deeds over and over."""
    least = {start: 0}
    waiting = [start]
    while waiting:
        standing = waiting.pop()
        for deed in all_deeds(wardrobe, len(start)):
            came = after(wardrobe, standing, deed)
            if came is not None:
                trouble = least[standing] + prices[deed[2]][deed[1] == "off"]
                if came not in least or trouble < least[came]:
                    least[came] = trouble
                    waiting.append(came)
    return least


class MayStay(Asking):
    def test_nothing_worn(self):
        for players in (1, 2, 3):
            bare = (((),) * 4,) * players
            self.assertEqual(self.told(may_stay, house(), bare, bare), [])
        self.assertEqual(self.told(may_stay, Wardrobe(1, []), (((),),), (((),),)), [])

    def test_the_same_standing(self):
        standing = dressed_house([5, 0], [3], [4])
        self.assertEqual(self.told(may_stay, house(), standing, standing), [(0, 0), (0, 5), (1, 3), (2, 4)])

    def test_what_is_taken_off_and_what_is_put_on(self):
        self.assertEqual(self.told(may_stay, house(), dressed_house([0, 2]), dressed_house([0])), [(0, 0)])
        self.assertEqual(self.told(may_stay, house(), dressed_house([0]), dressed_house([0, 2])), [(0, 0)])
        self.assertEqual(self.told(may_stay, house(), dressed_house([0, 2]), dressed_house([2])), [])
        self.assertEqual(self.told(may_stay, house(), dressed_house([2]), dressed_house([0, 2])), [])

    def test_turned(self):
        self.assertEqual(self.told(may_stay, house(), dressed_house([0, 2, 4]), dressed_house([2, 0, 4])), [(0, 4)])

    def test_another_player(self):
        one, other = dressed_house([0], [1]), dressed_house([1], [0])
        self.assertEqual(self.told(may_stay, house(), one, other), [])
        one, other = dressed_house([0, 4], [1], []), dressed_house([0], [1], [4])
        self.assertEqual(self.told(may_stay, house(), one, other), [(0, 0), (1, 1)])

    def test_the_same_rows_but_over_what_goes(self):
        # Garment 2 has the same rows in both; but 1 beneath it has to come off, for what lies beneath that goes.
        wardrobe = Wardrobe(3, [[0], [0, 1], [1, 2]])
        one = (modelled(wardrobe, [0, 1, 2]),)
        other = (modelled(wardrobe, [1, 2]),)
        self.assertEqual(one[0][1:], other[0][1:])
        self.assertEqual(self.told(may_stay, wardrobe, one, other), [])

    def test_far_over_what_goes(self):
        wardrobe = Wardrobe(5, [[0], [0, 1], [1, 2], [2, 3], [3, 4], [4]])
        one = (modelled(wardrobe, [0, 1, 2, 3, 4, 5]),)
        other = (modelled(wardrobe, [1, 2, 3, 4, 5]),)
        self.assertEqual(self.told(may_stay, wardrobe, one, other), [])
        other = (modelled(wardrobe, [0, 1, 2, 4, 5]),)
        self.assertEqual(self.told(may_stay, wardrobe, one, other), [(0, 0), (0, 1), (0, 2)])

    def test_the_same_at_one_place_alone(self):
        wardrobe = Wardrobe(2, [[0], [1], [0, 1]])
        one = (modelled(wardrobe, [0, 1, 2]),)
        other = (modelled(wardrobe, [0, 2]),)
        self.assertEqual(self.told(may_stay, wardrobe, one, other), [(0, 0)])

    def test_six_places_and_six_garments(self):
        one = dressed_wide([0, 1, 4, 2], [5], [3])
        other = dressed_wide([0, 1, 4], [5, 2], [])
        self.assertEqual(self.told(may_stay, wide(), one, other), [(0, 0), (0, 1), (0, 4), (1, 5)])

    def test_by_argument_names(self):
        standing = dressed_house([0])
        self.assertEqual(may_stay(wardrobe=house(), one=standing, other=standing), [(0, 0)])


class ReasonsWhy(Asking):
    def test_none(self):
        standing = dressed_house([5, 0], [3], [4])
        self.assertEqual(self.told(reasons_why, house(), standing, standing), [])
        self.assertEqual(self.told(reasons_why, house(), dressed_house([]), dressed_house([5, 0])), [])
        self.assertEqual(self.told(reasons_why, Wardrobe(1, []), (((),),), (((),),)), [])

    def test_the_row_is_not_the_same(self):
        self.assertEqual(self.told(reasons_why, house(), dressed_house([0]), dressed_house([])), [(0, 0, 1, None)])
        self.assertEqual(self.told(reasons_why, house(), dressed_house([0]), dressed_house([3])), [(0, 0, 1, None)])
        self.assertEqual(self.told(reasons_why, house(), dressed_house([0, 4]), dressed_house([4])), [(0, 0, 1, None)])

    def test_something_beneath(self):
        wardrobe = Wardrobe(3, [[0], [0, 1], [1, 2]])
        one = (modelled(wardrobe, [0, 1, 2]),)
        other = (modelled(wardrobe, [1, 2]),)
        answer = self.told(reasons_why, wardrobe, one, other)
        self.assertEqual((answer[0], answer[2]), ((0, 0, 0, None), (0, 2, 1, 1)))
        self.assertIn(answer[1], [(0, 1, 0, None), (0, 1, 0, 0)])

    def test_a_garment_nought_beneath(self):
        wardrobe = Wardrobe(2, [[0, 1], [1], [0]])
        one = (modelled(wardrobe, [2, 0, 1]),)
        other = (modelled(wardrobe, [0, 1]),)
        answer = self.told(reasons_why, wardrobe, one, other)
        self.assertEqual(answer[1:], [(0, 1, 1, 0), (0, 2, 0, None)])

    def test_sorted_by_player_and_garment(self):
        one = dressed_house([5, 3], [4, 1], [2, 0])
        other = dressed_house([], [], [])
        answer = self.told(reasons_why, house(), one, other)
        pairs = [reason[:2] for reason in answer]
        self.assertEqual(pairs, [(0, 3), (0, 5), (1, 1), (1, 4), (2, 0), (2, 2)])
        for reason in answer:
            self.assertIs(reason.__class__, tuple)
            self.assertTrue(is_reason(house(), one, other, reason, []))

    def test_six_places_and_six_garments(self):
        one = dressed_wide([0, 1, 4, 2], [5], [3])
        other = dressed_wide([0, 1, 4], [5, 2], [])
        answer = self.told(reasons_why, wide(), one, other)
        self.assertEqual([reason[:2] for reason in answer], [(0, 2), (2, 3)])
        self.assertIsNone(answer[0][3])
        self.assertEqual(answer[1], (2, 3, 5, None))

    def test_by_argument_names(self):
        answer = reasons_why(wardrobe=house(), one=dressed_house([4]), other=dressed_house([]))
        self.assertEqual(answer, [(0, 4, 3, None)])


class WayBetween(Asking):
    def test_none_is_needed(self):
        for standing in (dressed_house([], [], []), dressed_house([5, 0], [3], [4])):
            self.assertEqual(self.told(way_between, house(), standing, standing), [])
        self.assertEqual(self.told(way_between, Wardrobe(1, []), (((),),), (((),),)), [])

    def test_on_alone(self):
        deeds = self.told(way_between, house(), dressed_house([], []), dressed_house([], [5, 0]))
        self.assertEqual(deeds, [(1, "on", 5), (1, "on", 0)])

    def test_off_alone(self):
        deeds = self.told(way_between, house(), dressed_house([5, 0], [4]), dressed_house([], [4]))
        self.assertEqual(deeds, [(0, "off", 0), (0, "off", 5)])

    def test_all_off_first_then_on(self):
        one, other = dressed_house([0, 2], [1]), dressed_house([1], [0, 2])
        deeds = self.told(way_between, house(), one, other)
        self.assertEqual(sorted(deeds[:3]), [(0, "off", 0), (0, "off", 2), (1, "off", 1)])
        self.assertEqual(sorted(deeds[3:]), [(0, "on", 1), (1, "on", 0), (1, "on", 2)])
        self.assertEqual(after_all(house(), one, deeds), other)

    def test_what_is_put_beneath(self):
        deeds = self.told(way_between, house(), dressed_house([2]), dressed_house([0, 2]))
        self.assertEqual(deeds, [(0, "off", 2), (0, "on", 0), (0, "on", 2)])

    def test_six_places_and_six_garments(self):
        one, other = dressed_wide([0, 1, 2, 3, 4, 5], []), dressed_wide([], [5, 4, 3, 2, 1, 0])
        deeds = self.told(way_between, wide(), one, other)
        self.assertEqual([deed[:2] for deed in deeds], [(0, "off")] * 6 + [(1, "on")] * 6)
        self.assertEqual(after_all(wide(), one, deeds), other)

    def test_deeds_are_tuples_in_a_list(self):
        deeds = way_between(house(), dressed_house([4]), dressed_house([3]))
        self.assertEqual((deeds.__class__, {deed.__class__ for deed in deeds}), (list, {tuple}))

    def test_by_argument_names(self):
        deeds = way_between(wardrobe=house(), one=dressed_house([4]), other=dressed_house([]))
        self.assertEqual(deeds, [(0, "off", 4)])


class Trouble(Asking):
    def test_no_deeds(self):
        self.assertEqual(self.told(trouble_of, PRICES, []), 0)
        self.assertEqual(self.told(trouble_of, [], []), 0)

    def test_on_and_off(self):
        for garment in range(6):
            self.assertEqual(self.told(trouble_of, PRICES, [(0, "on", garment)]), PRICES[garment][0])
            self.assertEqual(self.told(trouble_of, PRICES, [(0, "off", garment)]), PRICES[garment][1])

    def test_the_sum(self):
        deeds = [(0, "on", 0), (1, "off", 3), (2, "on", 5), (0, "off", 0)]
        self.assertEqual(self.told(trouble_of, PRICES, deeds), 1 + 17 + 29 + 2)

    def test_let_by_or_not(self):
        # Put on twice, and by a player that there hardly is: the prices are the same.
        self.assertEqual(self.told(trouble_of, PRICES, [(0, "on", 2), (1, "on", 2), (9, "on", 2)]), 21)

    def test_bounds_of_prices(self):
        prices = [(0, 10 ** 6), (10 ** 6, 0)]
        deeds = [(0, "on", 0), (0, "off", 0), (0, "on", 1), (0, "off", 1)]
        self.assertEqual(self.told(trouble_of, prices, deeds), 2 * 10 ** 6)

    def test_by_argument_names(self):
        self.assertEqual(trouble_of(prices=PRICES, deeds=[(0, "on", 1)]), 3)


class LeastTrouble(Asking):
    def test_nothing_to_do(self):
        standing = dressed_house([5, 0], [3])
        self.assertEqual(self.told(least_trouble, house(), PRICES, standing, standing), 0)
        self.assertEqual(self.told(least_trouble, Wardrobe(1, []), [], (((),),), (((),),)), 0)

    def test_on_and_off(self):
        one, other = dressed_house([2], [4]), dressed_house([0, 2], [])
        self.assertEqual(self.told(least_trouble, house(), PRICES, one, other), 11 + 1 + 7 + 23)
        self.assertEqual(self.told(least_trouble, house(), PRICES, other, one), 11 + 2 + 7 + 19)

    def test_six_places_and_six_garments(self):
        one, other = dressed_wide([0, 1, 2, 3, 4, 5], [], []), dressed_wide([], [], [5, 4, 3, 2, 1, 0])
        trouble = sum(on + off for on, off in PRICES)
        self.assertEqual(self.told(least_trouble, wide(), PRICES, one, other), trouble)

    def test_by_argument_names(self):
        answer = least_trouble(wardrobe=house(), prices=PRICES, one=dressed_house([4]), other=dressed_house([]))
        self.assertEqual(answer, 23)


class EveryPair(unittest.TestCase):
    def test_what_stays_and_why_the_rest_does_not(self):
        for wardrobe, standings in worlds():
            for one, other in product(standings, repeat=2):
                staying = may_stay(wardrobe, one, other)
                self.assertEqual(staying, greatest_staying(wardrobe, one, other))
                reasons = reasons_why(wardrobe, one, other)
                pairs = [pair for pair in worn_pairs(one) if pair not in staying]
                self.assertEqual([reason[:2] for reason in reasons], pairs)
                for reason in reasons:
                    self.assertTrue(is_reason(wardrobe, one, other, reason, staying))

    def test_the_way_leads_there(self):
        for wardrobe, standings in worlds():
            for one, other in product(standings, repeat=2):
                staying = may_stay(wardrobe, one, other)
                taken = [(player, "off", g) for player, g in worn_pairs(one) if (player, g) not in staying]
                put = [(player, "on", g) for player, g in worn_pairs(other) if (player, g) not in staying]
                deeds = way_between(wardrobe, one, other)
                self.assertEqual(sorted(deeds[:len(taken)]), taken)
                self.assertEqual(sorted(deeds[len(taken):]), put)
                self.assertEqual(after_all(wardrobe, one, deeds), other)

    def assert_least(self, wardrobe, prices, standings):
        for one in standings:
            least = least_from(wardrobe, prices, one)
            for other in standings:
                self.assertEqual(least_trouble(wardrobe, prices, one, other), least[other])
                self.assertEqual(trouble_of(prices, way_between(wardrobe, one, other)), least[other])

    def test_no_way_has_less_trouble(self):
        for wardrobe, standings in worlds():
            self.assert_least(wardrobe, PRICES[:wardrobe.many()], standings)

    def test_each_of_the_rest_is_taken_off_whatever_is_done(self):
        # Nothing costs anything but taking off one garment, so the least trouble tells how often that is needed.
        for wardrobe in small_wardrobes():
            standings = all_standings(wardrobe, 2)
            for garment in range(wardrobe.many()):
                prices = [(0, int(g == garment)) for g in range(wardrobe.many())]
                self.assert_least(wardrobe, prices, standings)
                for one in standings[::3]:
                    least = least_from(wardrobe, prices, one)
                    for other in standings:
                        told = [reason for reason in reasons_why(wardrobe, one, other) if reason[1] == garment]
                        self.assertEqual(least[other], len(told))

    def test_some_standings_of_six_garments(self):
        orders = ([], [0, 2, 3], [5, 4], [1], [3, 5], [2, 0, 1])
        standings = [
            dressed_house(one, other)
            for one, other in product(orders, repeat=2) if not set(one) & set(other)
        ]
        self.assertGreater(len(standings), 12)
        for one, other in product(standings, repeat=2):
            deeds = way_between(house(), one, other)
            self.assertEqual(after_all(house(), one, deeds), other)
            self.assertEqual(may_stay(house(), one, other), greatest_staying(house(), one, other))


if __name__ == "__main__":
    unittest.main()
