"""Points 16 and 17, and point 3 of beats: what has to wait for what, and the quickest change."""

import unittest
from itertools import product

from helping import (
    Asking, after_all, all_beats, all_standings, dressed_house, dressed_wide, house, larger_wardrobes, modelled, wide,
    worlds,
)
from quickchange.beats import beat_done
from quickchange.quickest import quickest_change, waits_between
from quickchange.stays import least_trouble, may_stay, trouble_of
from quickchange.wardrobe import Wardrobe


def is_over(wearing, upper, lower):
    """True where the upper one lies anywhere outward of the lower one."""
    return any(lower in row and upper in row[row.index(lower) + 1:] for row in wearing)


def deeds_between(wardrobe, one, other):
    """The deeds of point 16: off for what may not stay of the first, on for what may not stay of the other."""
    staying = may_stay(wardrobe, one, other)
    return sorted({
        (player, word, garment)
        for standing, word in ((one, "off"), (other, "on"))
        for player, wearing in enumerate(standing) for row in wearing for garment in row
        if (player, garment) not in staying
    })


def has_to_wait(wardrobe, one, other, ahead, behind):
    """True where the deed behind has to wait for the one ahead, by the words of point 16."""
    is_same_player = ahead[0] == behind[0]
    b, a = ahead[2], behind[2]
    if (behind[1], ahead[1]) == ("off", "off"):
        return is_same_player and is_over(one[behind[0]], b, a)
    if (behind[1], ahead[1]) == ("on", "on"):
        return is_same_player and is_over(other[behind[0]], a, b)
    if (behind[1], ahead[1]) == ("on", "off"):
        return a == b or (is_same_player and bool(set(wardrobe.covers(a)) & set(wardrobe.covers(b))))
    return False


def all_waits(wardrobe, one, other):
    deeds = deeds_between(wardrobe, one, other)
    return sorted(pair for pair in product(deeds, repeat=2) if has_to_wait(wardrobe, one, other, *pair))


def fewest_from(neighbours, start):
    """For each standing the least number of beats, of whatever deeds, that leads to it."""
    fewest = {start: 0}
    reached = [start]
    for standing in reached:
        for came in neighbours[standing]:
            if came not in fewest:
                fewest[came] = fewest[standing] + 1
                reached.append(came)
    return fewest


class Waits(Asking):
    def test_between_a_standing_and_itself(self):
        for standing in (dressed_house([]), dressed_house([5, 0], [3], [4])):
            self.assertEqual(self.told(waits_between, house(), standing, standing), [])
        self.assertEqual(self.told(waits_between, Wardrobe(1, []), (((),),), (((),),)), [])

    def test_off_for_off(self):
        waits = self.told(waits_between, house(), dressed_house([0, 2]), dressed_house([]))
        self.assertEqual(waits, [((0, "off", 2), (0, "off", 0))])

    def test_off_for_off_further_out(self):
        waits = self.told(waits_between, house(), dressed_house([0, 2, 3]), dressed_house([]))
        self.assertEqual(waits, [
            ((0, "off", 2), (0, "off", 0)), ((0, "off", 3), (0, "off", 0)), ((0, "off", 3), (0, "off", 2)),
        ])

    def test_on_for_on(self):
        waits = self.told(waits_between, house(), dressed_house([]), dressed_house([0, 2]))
        self.assertEqual(waits, [((0, "on", 0), (0, "on", 2))])

    def test_on_for_on_further_out(self):
        waits = self.told(waits_between, house(), dressed_house([]), dressed_house([3, 2, 0]))
        self.assertEqual(waits, [
            ((0, "on", 2), (0, "on", 0)), ((0, "on", 3), (0, "on", 0)), ((0, "on", 3), (0, "on", 2)),
        ])

    def test_on_for_off_of_what_meets(self):
        waits = self.told(waits_between, house(), dressed_house([0]), dressed_house([2]))
        self.assertEqual(waits, [((0, "off", 0), (0, "on", 2))])

    def test_on_for_off_of_the_same_garment(self):
        waits = self.told(waits_between, house(), dressed_house([4], []), dressed_house([], [4]))
        self.assertEqual(waits, [((0, "off", 4), (1, "on", 4))])
        waits = self.told(waits_between, house(), dressed_house([], [], [4]), dressed_house([4], [], []))
        self.assertEqual(waits, [((2, "off", 4), (0, "on", 4))])

    def test_the_same_garment_off_and_on_again(self):
        waits = self.told(waits_between, house(), dressed_house([2]), dressed_house([0, 2]))
        self.assertEqual(waits, [
            ((0, "off", 2), (0, "on", 0)), ((0, "off", 2), (0, "on", 2)), ((0, "on", 0), (0, "on", 2)),
        ])

    def test_what_does_not_meet_does_not_wait(self):
        self.assertEqual(self.told(waits_between, house(), dressed_house([0, 4]), dressed_house([1])), [])

    def test_other_players_do_not_wait(self):
        one, other = dressed_house([0], [], []), dressed_house([], [2], [3])
        self.assertEqual(self.told(waits_between, house(), one, other), [])
        self.assertEqual(self.told(waits_between, house(), dressed_house([0], [2]), dressed_house([], [])), [])
        self.assertEqual(self.told(waits_between, house(), dressed_house([], []), dressed_house([0], [2])), [])

    def test_what_stays_is_waited_for_by_none(self):
        waits = self.told(waits_between, house(), dressed_house([0]), dressed_house([0, 2, 3]))
        self.assertEqual(waits, [((0, "on", 2), (0, "on", 3))])

    def test_over_at_a_later_place_alone(self):
        waits = self.told(waits_between, house(), dressed_house([5, 4]), dressed_house([]))
        self.assertEqual(waits, [((0, "off", 4), (0, "off", 5))])

    def test_six_places_and_six_garments(self):
        one, other = dressed_wide([2, 4, 5], []), dressed_wide([], [2, 1])
        self.assertEqual(self.told(waits_between, wide(), one, other), [
            ((0, "off", 2), (1, "on", 2)), ((0, "off", 4), (0, "off", 2)), ((0, "off", 5), (0, "off", 2)),
            ((1, "on", 2), (1, "on", 1)),
        ])

    def test_by_argument_names(self):
        waits = waits_between(wardrobe=house(), one=dressed_house([0]), other=dressed_house([2]))
        self.assertEqual(waits, [((0, "off", 0), (0, "on", 2))])


class Quickest(Asking):
    def test_between_a_standing_and_itself(self):
        for standing in (dressed_house([]), dressed_house([5, 0], [3], [4])):
            self.assertEqual(self.told(quickest_change, house(), standing, standing), ([], []))
        self.assertEqual(self.told(quickest_change, Wardrobe(1, []), (((),),), (((),),)), ([], []))

    def test_one_deed(self):
        answer = self.told(quickest_change, house(), dressed_house([]), dressed_house([4]))
        self.assertEqual(answer, ([[(0, "on", 4)]], [(0, "on", 4)]))

    def test_all_at_once(self):
        answer = self.told(quickest_change, house(), dressed_house([0], [4], []), dressed_house([1], [], [2]))
        beat = [(0, "off", 0), (0, "on", 1), (1, "off", 4), (2, "on", 2)]
        self.assertEqual(answer[0], [beat])
        self.assertEqual(len(answer[1]), 1)
        self.assertIn(answer[1][0], beat)

    def test_each_kind_of_wait(self):
        answer = self.told(quickest_change, house(), dressed_house([0, 2]), dressed_house([]))
        self.assertEqual(answer, ([[(0, "off", 2)], [(0, "off", 0)]], [(0, "off", 2), (0, "off", 0)]))
        answer = self.told(quickest_change, house(), dressed_house([]), dressed_house([2, 0]))
        self.assertEqual(answer, ([[(0, "on", 2)], [(0, "on", 0)]], [(0, "on", 2), (0, "on", 0)]))
        answer = self.told(quickest_change, house(), dressed_house([0]), dressed_house([2]))
        self.assertEqual(answer, ([[(0, "off", 0)], [(0, "on", 2)]], [(0, "off", 0), (0, "on", 2)]))
        answer = self.told(quickest_change, house(), dressed_house([4], []), dressed_house([], [4]))
        self.assertEqual(answer, ([[(0, "off", 4)], [(1, "on", 4)]], [(0, "off", 4), (1, "on", 4)]))

    def test_a_chain_through_several_players(self):
        # The shirt has to come out from under the coat, go to the other player, and be covered there.
        one, other = dressed_house([0, 2], []), dressed_house([], [0, 3])
        chain = [(0, "off", 2), (0, "off", 0), (1, "on", 0), (1, "on", 3)]
        answer = self.told(quickest_change, house(), one, other)
        self.assertEqual(answer, ([[deed] for deed in chain], chain))

    def test_six_places_and_six_garments(self):
        wardrobe = Wardrobe(6, [[place] for place in range(6)])
        bare = ((),) * 6
        full = tuple((place,) for place in range(6))
        answer = self.told(quickest_change, wardrobe, (full, bare), (bare, full))
        off = [(0, "off", garment) for garment in range(6)]
        on = [(1, "on", garment) for garment in range(6)]
        self.assertEqual(answer[0], [off, on])
        self.assertEqual(answer[1][0][2], answer[1][1][2])

    def test_twelve_beats(self):
        wardrobe = Wardrobe(1, [[0]] * 6)
        one, other = (((0, 1, 2, 3, 4, 5),),), (((1, 2, 3, 4, 5, 0),),)
        answer = self.told(quickest_change, wardrobe, one, other)
        chain = [(0, "off", g) for g in (5, 4, 3, 2, 1, 0)] + [(0, "on", g) for g in (1, 2, 3, 4, 5, 0)]
        self.assertEqual(answer, ([[deed] for deed in chain], chain))

    def test_lists_and_tuples(self):
        beats, chain = quickest_change(house(), dressed_house([0, 2]), dressed_house([2]))
        self.assertEqual((beats.__class__, chain.__class__), (list, list))
        self.assertEqual({beat.__class__ for beat in beats}, {list})
        self.assertEqual({deed.__class__ for deed in chain + beats[0]}, {tuple})

    def test_by_argument_names(self):
        answer = quickest_change(wardrobe=house(), one=dressed_house([4]), other=dressed_house([]))
        self.assertEqual(answer, ([[(0, "off", 4)]], [(0, "off", 4)]))


class EveryPair(unittest.TestCase):
    def assert_change(self, wardrobe, one, other):
        """Tells how many beats the change takes, once it is seen that it is one."""
        waits = waits_between(wardrobe, one, other)
        self.assertEqual(waits, all_waits(wardrobe, one, other))
        beats, chain = quickest_change(wardrobe, one, other)
        deeds = deeds_between(wardrobe, one, other)
        self.assertEqual(sorted(deed for beat in beats for deed in beat), deeds)
        standing = one
        for beat in beats:
            self.assertEqual(beat, sorted(beat))
            self.assertGreater(len(beat), 0)
            standing = beat_done(wardrobe, standing, beat)
        self.assertEqual(standing, other)
        self.assertEqual(len(chain), len(beats))
        self.assertTrue(all(deed in deeds for deed in chain))
        self.assertTrue(all(pair in waits for pair in zip(chain, chain[1:])))
        return len(beats)

    def neighbours(self, wardrobe, standings):
        return {
            standing: [
                after_all(wardrobe, standing, beat)
                for beat in all_beats(wardrobe, standing, wardrobe.many())
            ]
            for standing in standings
        }

    def test_no_shorter_row_of_beats_leads_there(self):
        for wardrobe, standings in worlds():
            neighbours = self.neighbours(wardrobe, standings)
            for one in standings:
                fewest = fewest_from(neighbours, one)
                for other in standings:
                    self.assertEqual(self.assert_change(wardrobe, one, other), fewest[other])

    def test_its_trouble_is_the_least(self):
        prices = [(1, 2), (3, 5), (7, 11), (13, 17)]
        for wardrobe, standings in worlds():
            for one, other in product(standings[::4], standings):
                beats = quickest_change(wardrobe, one, other)[0]
                trouble = sum(trouble_of(prices, beat) for beat in beats)
                self.assertEqual(trouble, least_trouble(wardrobe, prices, one, other))

    def test_some_changes_of_two_players_and_four_garments(self):
        for wardrobe in larger_wardrobes()[:2]:
            standings = all_standings(wardrobe, 2)
            neighbours = self.neighbours(wardrobe, standings)
            for one in standings[::40]:
                fewest = fewest_from(neighbours, one)
                for other in standings[::3]:
                    self.assertEqual(self.assert_change(wardrobe, one, other), fewest[other])

    def test_some_changes_of_six_garments(self):
        orders = ([], [0, 2, 3], [5, 4], [1], [3, 5], [2, 0, 1])
        standings = [
            (modelled(house(), one), modelled(house(), other))
            for one, other in product(orders, repeat=2) if not set(one) & set(other)
        ]
        for one, other in product(standings, repeat=2):
            self.assert_change(house(), one, other)


if __name__ == "__main__":
    unittest.main()
