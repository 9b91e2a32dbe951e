"""Points 5, 6 and 7: wearings, putting on and taking off, and what is told of them."""

import unittest
from itertools import permutations

from helping import COVERS, NO_NUMBERS as NO_GARMENTS, Asking, all_wearings, house, modelled
from quickchange.errors import Covered, NoGarment, NotWorn, Worn
from quickchange.wardrobe import Wardrobe
from quickchange.wearing import (
    bare_wearing, dressed, outermost, put_on, right_over, seen_in, take_off, worn_in,
)


class Bare(unittest.TestCase):
    def test_bare(self):
        for places in range(1, 7):
            self.assertEqual(bare_wearing(Wardrobe(places, [[0]])), ((),) * places)
        self.assertEqual(bare_wearing(Wardrobe(2, [])), ((), ()))


class PuttingOn(Asking):
    def test_at_several_places(self):
        wearing = put_on(house(), bare_wearing(house()), 3)
        self.assertEqual(wearing, ((3,), (3,), (), ()))
        wearing = put_on(house(), wearing, 5)
        self.assertEqual(wearing, ((3,), (3, 5), (5,), (5,)))
        wearing = put_on(house(), wearing, 0)
        self.assertEqual(wearing, ((3,), (3, 5, 0), (5,), (5,)))

    def test_rows_are_tuples(self):
        wearing = put_on(house(), bare_wearing(house()), 2)
        self.assertIs(wearing.__class__, tuple)
        self.assertEqual({row.__class__ for row in wearing}, {tuple})

    def test_what_was_told_ahead_stays(self):
        first = put_on(house(), bare_wearing(house()), 2)
        put_on(house(), first, 3)
        take_off(house(), first, 2)
        self.assertEqual(first, ((), (2,), (2,), ()))

    def test_no_garment(self):
        for wearing in (bare_wearing(house()), dressed(house(), [0, 1, 2])):
            for told in NO_GARMENTS:
                self.refused(NoGarment, lambda: put_on(house(), wearing, told), garment=told)

    def test_no_garment_goes_ahead_of_worn(self):
        # True is equal to the garment 1, which is worn; it is no garment all the same.
        wearing = dressed(house(), [0, 1])
        self.refused(NoGarment, lambda: put_on(house(), wearing, True), garment=True)
        self.refused(NoGarment, lambda: put_on(house(), wearing, False), garment=False)

    def test_worn(self):
        wearing = dressed(house(), [2, 0, 4])
        for garment in (2, 0, 4):
            self.refused(Worn, lambda: put_on(house(), wearing, garment), garment=garment)

    def test_worn_beneath_others_too(self):
        wearing = dressed(Wardrobe(1, [[0], [0], [0]]), [1, 0])
        self.refused(Worn, lambda: put_on(Wardrobe(1, [[0], [0], [0]]), wearing, 1), garment=1)

    def test_the_last_garment(self):
        self.assertEqual(put_on(house(), bare_wearing(house()), 5), ((), (5,), (5,), (5,)))


class TakingOff(Asking):
    def test_at_several_places(self):
        wearing = dressed(house(), [0, 2, 4, 5])
        self.assertEqual(wearing, ((), (0, 2, 5), (2, 5), (4, 5)))
        wearing = take_off(house(), wearing, 5)
        self.assertEqual(wearing, ((), (0, 2), (2,), (4,)))
        wearing = take_off(house(), wearing, 4)
        self.assertEqual(wearing, ((), (0, 2), (2,), ()))
        wearing = take_off(house(), wearing, 2)
        self.assertEqual(wearing, ((), (0,), (), ()))
        wearing = take_off(house(), wearing, 0)
        self.assertEqual(wearing, bare_wearing(house()))

    def test_again_put_on_it_comes_outermost(self):
        wearing = take_off(house(), dressed(house(), [0, 3]), 3)
        self.assertEqual(put_on(house(), put_on(house(), wearing, 2), 3), ((3,), (0, 2, 3), (2,), ()))

    def test_what_was_told_ahead_stays(self):
        wearing = dressed(house(), [0, 2])
        take_off(house(), wearing, 2)
        self.assertEqual(wearing, ((), (0, 2), (2,), ()))

    def test_no_garment(self):
        for wearing in (bare_wearing(house()), dressed(house(), [0, 1, 2])):
            for told in NO_GARMENTS:
                self.refused(NoGarment, lambda: take_off(house(), wearing, told), garment=told)

    def test_not_worn(self):
        for garment in range(6):
            self.refused(NotWorn, lambda: take_off(house(), bare_wearing(house()), garment), garment=garment)
        self.refused(NotWorn, lambda: take_off(house(), dressed(house(), [0, 2]), 1), garment=1)

    def test_covered(self):
        wearing = dressed(house(), [0, 2])
        self.refused(Covered, lambda: take_off(house(), wearing, 0), garment=0, over=2)

    def test_covered_at_the_last_place_alone(self):
        wearing = dressed(house(), [5, 4])
        self.refused(Covered, lambda: take_off(house(), wearing, 5), garment=5, over=4)

    def test_covered_tells_the_least_straight_over(self):
        wearing = dressed(house(), [5, 4, 1, 0])
        self.refused(Covered, lambda: take_off(house(), wearing, 5), garment=5, over=0)
        wearing = dressed(house(), [5, 4, 3, 1])
        self.refused(Covered, lambda: take_off(house(), wearing, 5), garment=5, over=1)

    def test_covered_tells_none_further_out(self):
        wearing = dressed(house(), [2, 3, 0])
        self.refused(Covered, lambda: take_off(house(), wearing, 2), garment=2, over=3)
        wearing = dressed(house(), [5, 4, 3, 0])
        self.refused(Covered, lambda: take_off(house(), wearing, 5), garment=5, over=3)


class Told(Asking):
    def test_worn_in(self):
        self.assertEqual(worn_in(bare_wearing(house())), [])
        self.assertEqual(worn_in(dressed(house(), [5, 3, 0])), [0, 3, 5])
        self.assertEqual(worn_in(dressed(house(), [5, 4, 3, 2, 1, 0])), [0, 1, 2, 3, 4, 5])

    def test_outermost(self):
        self.assertEqual(outermost(house(), bare_wearing(house())), [])
        self.assertEqual(outermost(house(), dressed(house(), [4, 3, 1, 0])), [0, 1, 4])
        self.assertEqual(outermost(house(), dressed(house(), [4, 1, 3, 5])), [5])
        # The last one of one row that something lies over in another row isn't an outermost one.
        self.assertEqual(outermost(house(), dressed(house(), [5, 2])), [2])

    def test_right_over(self):
        self.assertEqual(right_over(house(), dressed(house(), [0]), 0), [])
        self.assertEqual(right_over(house(), dressed(house(), [5, 4, 1, 0]), 5), [0, 1, 4])
        self.assertEqual(right_over(house(), dressed(house(), [2, 3, 0, 1]), 2), [1, 3])
        self.assertEqual(right_over(house(), dressed(house(), [0, 2, 3]), 0), [2])

    def test_right_over_tells_each_once(self):
        self.assertEqual(right_over(house(), dressed(house(), [2, 5]), 2), [5])

    def test_right_over_refuses_no_garment(self):
        for wearing in (bare_wearing(house()), dressed(house(), [0, 1, 2])):
            for told in NO_GARMENTS:
                self.refused(NoGarment, lambda: right_over(house(), wearing, told), garment=told)

    def test_right_over_refuses_what_is_not_worn(self):
        self.refused(NotWorn, lambda: right_over(house(), dressed(house(), [0, 2]), 1), garment=1)
        self.refused(NotWorn, lambda: right_over(house(), bare_wearing(house()), 0), garment=0)

    def test_seen_in(self):
        self.assertEqual(seen_in(bare_wearing(house())), [None, None, None, None])
        self.assertEqual(seen_in(dressed(house(), [0, 2, 3])), [3, 3, 2, None])
        # Garment 0 is seen, though it counts as nothing elsewhere.
        self.assertEqual(seen_in(dressed(house(), [0])), [None, 0, None, None])


class Dressed(Asking):
    def test_an_order(self):
        self.assertEqual(dressed(house(), []), bare_wearing(house()))
        self.assertEqual(dressed(house(), [3, 0, 2]), ((3,), (3, 0, 2), (2,), ()))
        self.assertEqual(dressed(house(), [2, 0, 3]), ((3,), (2, 0, 3), (2,), ()))

    def test_exchanged_neighbours_that_do_not_meet(self):
        self.assertEqual(dressed(house(), [0, 1, 4]), dressed(house(), [4, 1, 0]))

    def test_no_garment(self):
        for told in NO_GARMENTS:
            self.refused(NoGarment, lambda: dressed(house(), [0, told, 0]), garment=told)

    def test_worn(self):
        self.refused(Worn, lambda: dressed(house(), [0, 2, 2]), garment=2)

    def test_the_first_refusal_that_comes(self):
        self.refused(Worn, lambda: dressed(house(), [3, 3, 9]), garment=3)
        self.refused(NoGarment, lambda: dressed(house(), [3, 9, 3]), garment=9)
        self.refused(Worn, lambda: dressed(house(), [1, 0, 0, 1]), garment=0)

    def test_the_order_handed_in_stays(self):
        order = [3, 0, 2]
        dressed(house(), order)
        self.assertEqual(order, [3, 0, 2])
        order = [3, 3]
        self.refused(Worn, lambda: dressed(house(), order), garment=3)
        self.assertEqual(order, [3, 3])


class Copies(unittest.TestCase):
    def test_an_order_changed_behind_it(self):
        order = [3, 0]
        wearing = dressed(house(), order)
        order.clear()
        self.assertEqual(wearing, ((3,), (3, 0), (), ()))

    def test_told_lists_are_the_askers_own(self):
        wardrobe = house()
        wearing = dressed(wardrobe, [5, 4, 1, 0])
        for ask, told in (
            (lambda: worn_in(wearing), [0, 1, 4, 5]),
            (lambda: outermost(wardrobe, wearing), [0, 1, 4]),
            (lambda: right_over(wardrobe, wearing, 5), [0, 1, 4]),
            (lambda: seen_in(wearing), [None, 0, 1, 4]),
        ):
            first, second = ask(), ask()
            self.assertIs(first.__class__, list)
            self.assertEqual(first, told)
            first.append(99)
            first[0] = 99
            self.assertEqual(second, told)
            self.assertEqual(ask(), told)
        self.assertEqual(wearing, ((), (5, 0), (5, 1), (5, 4)))

    def test_a_refusal_keeps_what_was_told(self):
        told = [0]
        for ask in (put_on, take_off, right_over):
            with self.assertRaises(NoGarment) as caught:
                ask(house(), bare_wearing(house()), told)
            told.append(1)
            self.assertEqual(caught.exception.garment, [0])
            told = [0]

    def test_the_wardrobe_stays(self):
        wardrobe = house()
        wearing = dressed(wardrobe, [0, 2])
        take_off(wardrobe, wearing, 2)
        outermost(wardrobe, wearing)
        self.assertEqual([wardrobe.covers(garment) for garment in range(6)], COVERS)


class EveryWearing(unittest.TestCase):
    """Every wearing of some wardrobes, held against what the points say word by word."""

    def setUp(self):
        self.wardrobes = [
            Wardrobe(1, [[0], [0], [0]]),
            Wardrobe(3, [[0, 1], [1, 2], [0, 2], [1]]),
            Wardrobe(2, [[0], [0, 1], [1], [0, 1]]),
        ]

    def each(self):
        for wardrobe in self.wardrobes:
            for wearing, order in all_wearings(wardrobe).items():
                yield wardrobe, wearing, order

    def lie_straight_over(self, wearing, garment):
        pairs = [pair for row in wearing for pair in zip(row, row[1:])]
        return sorted({over for under, over in pairs if under == garment})

    def test_orders(self):
        for wardrobe in self.wardrobes:
            for order in permutations(range(wardrobe.many())):
                self.assertEqual(dressed(wardrobe, list(order)), modelled(wardrobe, order))

    def test_what_is_told(self):
        for wardrobe, wearing, order in self.each():
            self.assertEqual(worn_in(wearing), sorted(order))
            over = {garment: self.lie_straight_over(wearing, garment) for garment in order}
            for garment in order:
                self.assertEqual(right_over(wardrobe, wearing, garment), over[garment])
            self.assertEqual(outermost(wardrobe, wearing), sorted(g for g in order if not over[g]))
            self.assertEqual(seen_in(wearing), [((None,) + row)[-1] for row in wearing])

    def test_put_on_then_taken_off(self):
        for wardrobe, wearing, order in self.each():
            for garment in range(wardrobe.many()):
                if garment not in order:
                    more = put_on(wardrobe, wearing, garment)
                    self.assertEqual(more, modelled(wardrobe, order + (garment,)))
                    self.assertEqual(take_off(wardrobe, more, garment), wearing)

    def test_taken_off(self):
        for wardrobe, wearing, order in self.each():
            for garment in order:
                over = self.lie_straight_over(wearing, garment)
                if over:
                    with self.assertRaises(Covered) as caught:
                        take_off(wardrobe, wearing, garment)
                    self.assertEqual((caught.exception.garment, caught.exception.over), (garment, over[0]))
                else:
                    rest = tuple(other for other in order if other != garment)
                    self.assertEqual(take_off(wardrobe, wearing, garment), modelled(wardrobe, rest))


if __name__ == "__main__":
    unittest.main()
