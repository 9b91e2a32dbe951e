"""Point 9, and point 3 of rows: an order whose wearing they are, a ring, or a refusal."""

import unittest
from itertools import permutations, product

from helping import (
    COVERS, NO_NUMBERS, WIDE, Asking, all_orders, all_wardrobes, all_wearings, house, larger_wardrobes, modelled,
    small_wardrobes, wide,
)
from quickchange.errors import NoLook
from quickchange.rows import order_of
from quickchange.wardrobe import Wardrobe


def fault(wardrobe, rows):
    """(place, thing) of what is refused, or None."""
    for place, row in enumerate(rows):
        for depth in range(len(row)):
            thing = row[depth]
            if thing.__class__ is not int or thing not in range(wardrobe.many()):
                return (place, thing)
            if place not in wardrobe.covers(thing) or row.index(thing) != depth:
                return (place, thing)
    lacking = [
        (garment, place)
        for garment in range(wardrobe.many()) if any(garment in row for row in rows)
        for place in wardrobe.covers(garment) if garment not in rows[place]
    ]
    return min(lacking)[::-1] if lacking else None


class Ringing(Asking):
    def assert_ring(self, rows, ring):
        """Each garment once, each straight under the next one at its place."""
        self.assertIs(ring.__class__, list)
        self.assertGreater(len(ring), 1)
        garments = [garment for garment, place in ring]
        self.assertEqual(len(set(garments)), len(garments))
        for (garment, place), over in zip(ring, garments[1:] + garments[:1]):
            row = rows[place]
            self.assertEqual(row[row.index(garment):][:2], (garment, over))
        for part in ring:
            self.assertIs(part.__class__, tuple)


class Orders(Asking):
    def test_bare(self):
        for places in (1, 6):
            for covers in ([], [[0]]):
                answer = self.told(order_of, Wardrobe(places, covers), ((),) * places)
                self.assertEqual(answer, ("order", []))

    def test_one_garment(self):
        self.assertEqual(self.told(order_of, house(), ((3,), (3,), (), ())), ("order", [3]))
        self.assertEqual(self.told(order_of, Wardrobe(1, [[0]]), ((0,),)), ("order", [0]))

    def test_one_place(self):
        wardrobe = Wardrobe(1, [[0], [0], [0]])
        for order in permutations(range(3)):
            self.assertEqual(self.told(order_of, wardrobe, (order,)), ("order", list(order)))

    def test_the_least_comes_next(self):
        # 0, 1 and 4 don't meet: any order of them has these rows.
        self.assertEqual(self.told(order_of, house(), ((), (0,), (1,), (4,))), ("order", [0, 1, 4]))
        # The gown 5 lies under 0 and 1, the shoes 4 under the gown.
        rows = ((), (5, 0), (5, 1), (4, 5))
        self.assertEqual(self.told(order_of, house(), rows), ("order", [4, 5, 0, 1]))

    def test_the_least_that_may_come_not_the_least_beneath(self):
        # 3 has to come ahead of 0; 1 may come ahead of both, and 4 not ahead of 0, once that may come.
        rows = ((3,), (3, 0), (1,), (4,))
        self.assertEqual(self.told(order_of, house(), rows), ("order", [1, 3, 0, 4]))

    def test_six_places_and_six_garments(self):
        rows = tuple(tuple(g for g in (5, 3, 1, 0, 2, 4) if place in WIDE[g]) for place in range(6))
        self.assertEqual(self.told(order_of, wide(), rows), ("order", [3, 1, 0, 5, 2, 4]))

    def test_by_argument_names(self):
        self.assertEqual(order_of(wardrobe=Wardrobe(1, [[0]]), rows=((0,),)), ("order", [0]))


class Rings(Ringing):
    def test_two(self):
        wardrobe = Wardrobe(2, [[0, 1], [0, 1]])
        answer = self.told(order_of, wardrobe, ((0, 1), (1, 0)))
        self.assertEqual(answer[0], "ring")
        self.assertEqual(sorted(answer[1]), [(0, 0), (1, 1)])
        self.assert_ring(((0, 1), (1, 0)), answer[1])

    def test_three(self):
        wardrobe = Wardrobe(3, [[0, 2], [0, 1], [1, 2]])
        rows = ((0, 1), (1, 2), (2, 0))
        answer = self.told(order_of, wardrobe, rows)
        self.assertEqual((answer[0], len(answer), sorted(answer[1])), ("ring", 2, [(0, 0), (1, 1), (2, 2)]))
        self.assert_ring(rows, answer[1])

    def test_two_with_one_between(self):
        # 0 under 1 and 1 under 0, but at place 0 with 2 between: the ring has to go through it.
        wardrobe = Wardrobe(2, [[0, 1], [0, 1], [0]])
        rows = ((0, 2, 1), (1, 0))
        answer = self.told(order_of, wardrobe, rows)
        self.assertEqual((answer[0], sorted(answer[1])), ("ring", [(0, 0), (1, 1), (2, 0)]))
        self.assert_ring(rows, answer[1])

    def test_beneath_and_over_others(self):
        # Garment 2 lies inmost and 3 outermost; the ring is of 0 and 1 alone.
        wardrobe = Wardrobe(2, [[0, 1], [0, 1], [0, 1], [0, 1]])
        rows = ((2, 0, 1, 3), (2, 1, 0, 3))
        answer = self.told(order_of, wardrobe, rows)
        self.assertEqual((answer[0], sorted(answer[1])), ("ring", [(0, 0), (1, 1)]))
        self.assert_ring(rows, answer[1])

    def test_the_least_lies_over_the_ring(self):
        wardrobe = Wardrobe(2, [[0, 1], [0, 1], [0, 1]])
        rows = ((1, 2, 0), (2, 1, 0))
        answer = self.told(order_of, wardrobe, rows)
        self.assertEqual((answer[0], sorted(answer[1])), ("ring", [(1, 0), (2, 1)]))
        self.assert_ring(rows, answer[1])

    def test_six(self):
        wardrobe = Wardrobe(6, [[0, 5], [0, 1], [1, 2], [2, 3], [3, 4], [4, 5]])
        rows = ((0, 1), (1, 2), (2, 3), (3, 4), (4, 5), (5, 0))
        answer = self.told(order_of, wardrobe, rows)
        self.assertEqual((answer[0], sorted(answer[1])), ("ring", [(g, g) for g in range(6)]))
        self.assert_ring(rows, answer[1])

    def test_two_rings(self):
        wardrobe = Wardrobe(2, [[0, 1], [0, 1], [0, 1]])
        rows = ((0, 1, 2), (2, 1, 0))
        answer = self.told(order_of, wardrobe, rows)
        self.assertEqual(answer[0], "ring")
        self.assert_ring(rows, answer[1])


class Refused(Asking):
    def test_no_garment(self):
        for thing in NO_NUMBERS:
            self.refused(NoLook, order_of, house(), ((), (0, thing), (), ()), place=1, garment=thing)
            self.refused(NoLook, order_of, house(), ((thing, 9), (8,), (), ()), place=0, garment=thing)

    def test_no_garment_of_a_wardrobe_without_any(self):
        self.refused(NoLook, order_of, Wardrobe(2, []), ((), (0,)), place=1, garment=0)

    def test_a_truth_is_none_though_it_equals_one(self):
        wardrobe = Wardrobe(1, [[0], [0]])
        self.refused(NoLook, order_of, wardrobe, ((1, True),), place=0, garment=True)
        self.refused(NoLook, order_of, wardrobe, ((False,),), place=0, garment=False)

    def test_does_not_cover_the_place(self):
        self.refused(NoLook, order_of, house(), ((0,), (0,), (), ()), place=0, garment=0)
        self.refused(NoLook, order_of, house(), ((), (0,), (0,), ()), place=2, garment=0)

    def test_stands_ahead_too(self):
        self.refused(NoLook, order_of, house(), ((), (0, 2, 0), (2,), ()), place=1, garment=0)
        self.refused(NoLook, order_of, house(), ((), (), (), (4, 4)), place=3, garment=4)

    def test_the_first_by_places_then_from_within(self):
        self.refused(NoLook, order_of, house(), ((), (0, 0), ("a",), (9,)), place=1, garment=0)
        self.refused(NoLook, order_of, house(), ((), (0,), ("a", 0), (9,)), place=2, garment="a")
        self.refused(NoLook, order_of, house(), ((), (0,), (0, "a"), (9,)), place=2, garment=0)
        self.refused(NoLook, order_of, house(), ((3, 3, 7), (7,), (), ()), place=0, garment=3)

    def test_lacks(self):
        self.refused(NoLook, order_of, house(), ((), (), (2,), ()), place=1, garment=2)
        self.refused(NoLook, order_of, house(), ((), (2,), (), ()), place=2, garment=2)

    def test_lacks_at_several_places(self):
        self.refused(NoLook, order_of, house(), ((), (), (5,), ()), place=1, garment=5)
        self.refused(NoLook, order_of, house(), ((), (5,), (), ()), place=2, garment=5)
        self.refused(NoLook, order_of, house(), ((), (5,), (5,), ()), place=3, garment=5)

    def test_the_least_that_lacks_whatever_its_place(self):
        self.refused(NoLook, order_of, house(), ((3,), (2,), (), (5,)), place=2, garment=2)
        self.refused(NoLook, order_of, house(), ((), (5, 2), (5,), ()), place=2, garment=2)

    def test_a_thing_goes_ahead_of_what_lacks(self):
        self.refused(NoLook, order_of, house(), ((3,), (), (), (4, 4)), place=3, garment=4)
        self.refused(NoLook, order_of, house(), ((), (2,), (), (None,)), place=3, garment=None)

    def test_what_lacks_goes_ahead_of_a_ring(self):
        wardrobe = Wardrobe(3, [[0, 1], [0, 1], [0, 2]])
        self.refused(NoLook, order_of, wardrobe, ((0, 1, 2), (1, 0), ()), place=2, garment=2)

    def test_the_refusal_keeps_what_was_told(self):
        thing = [0, [1]]
        with self.assertRaises(NoLook) as caught:
            order_of(house(), ((), (thing,), (), ()))
        thing[1].append(2)
        self.assertEqual(caught.exception.garment, [0, [1]])


class EveryRows(Ringing):
    def assert_told(self, wardrobe, rows, leasts):
        """What is told is what the document says, word by word; `leasts` has the least order of each wearing."""
        wrong = fault(wardrobe, rows)
        if wrong is not None:
            self.refused(NoLook, order_of, wardrobe, rows, place=wrong[0], garment=wrong[1])
            return
        answer = order_of(wardrobe, rows)
        if rows in leasts:
            self.assertEqual(answer, ("order", list(leasts[rows])))
        else:
            self.assertEqual((answer[0], len(answer)), ("ring", 2))
            self.assert_ring(rows, answer[1])

    def least_orders(self, wardrobe):
        """For each wearing the least of its orders: the one that has the least next wherever it can."""
        leasts = {}
        for order in all_orders(wardrobe):
            wearing = modelled(wardrobe, order)
            leasts[wearing] = min(order, leasts.get(wearing, order))
        return leasts

    def test_anything_in_small_rows(self):
        things = [some for count in range(4) for some in product((0, 1, 2, "a"), repeat=count)]
        for wardrobe in (Wardrobe(2, [[0, 1], [1]]), Wardrobe(2, [[0, 1], [0, 1]]), Wardrobe(2, [[0], [0], [0, 1]])):
            leasts = self.least_orders(wardrobe)
            for rows in product(things, repeat=2):
                self.assert_told(wardrobe, rows, leasts)

    def full_rows(self, wardrobe):
        """All rows in which nothing lacks and nothing is strange, with all the garments."""
        return product(*[
            permutations([g for g in range(wardrobe.many()) if place in wardrobe.covers(g)])
            for place in range(wardrobe.spots())
        ])

    def test_all_garments_in_every_arrangement(self):
        more = [Wardrobe(3, [[0, 1], [1, 2], [0, 2], [0, 1, 2]]), Wardrobe(2, [[0, 1]] * 4)]
        for wardrobe in all_wardrobes(3, 3) + larger_wardrobes() + more:
            leasts = self.least_orders(wardrobe)
            for rows in self.full_rows(wardrobe):
                self.assert_told(wardrobe, rows, leasts)

    def test_every_wearing_has_an_order(self):
        for wardrobe in small_wardrobes() + larger_wardrobes():
            leasts = self.least_orders(wardrobe)
            for wearing in all_wearings(wardrobe):
                self.assert_told(wardrobe, wearing, leasts)

    def test_every_wearing_of_six_garments(self):
        for covers in (COVERS, WIDE):
            wardrobe = Wardrobe(6, covers)
            leasts = self.least_orders(wardrobe)
            for wearing in leasts:
                self.assertEqual(order_of(wardrobe, wearing), ("order", list(leasts[wearing])))


if __name__ == "__main__":
    unittest.main()
