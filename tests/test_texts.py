"""Point 27: written prompts."""

import unittest

from helping import (
    Asking, all_standings, drawn_books, drawn_prompts, dressed_wide, frozen, larger_wardrobes, named, small_wardrobes,
    wide,
)
from quickchange.books import Book
from quickchange.prompts import Prompt
from quickchange.texts import read_prompt, written_rows
from quickchange.wardrobe import Wardrobe

WARDROBE = Wardrobe(3, [[0], [0, 1, 2], [2]])
PRICES = [(1, 2), (0, 1000000), (30, 4)]
SETTING = [
    "place head", "place body", "place feet", "garment hat 1 2 head", "garment gown 0 1000000 head body feet",
    "garment shoes 30 4 feet",
]
BARE = ((), (), ())


def prompt(start=(BARE,), dressers=1, beats=0, scenes=()):
    players = ["ann", "bob", "cid"][:len(start)]
    book = Book(WARDROBE, PRICES, start, dressers, beats, list(scenes))
    return Prompt(["head", "body", "feet"], ["hat", "gown", "shoes"], players, book)


class Written(Asking):
    def assert_written(self, told, *rows):
        self.assertEqual(self.told(written_rows, told), list(rows))
        again = self.told(read_prompt, list(rows))
        self.assertEqual(frozen(again), frozen(told))
        self.assertEqual(written_rows(again), list(rows))

    def test_the_least_prompt(self):
        book = Book(Wardrobe(1, []), [], (((),),), 0, 0, [])
        self.assert_written(Prompt(["a"], [], ["b"], book), "place a", "player b", "dressers 0")

    def test_places_garments_and_players(self):
        self.assert_written(prompt(), *SETTING, "player ann", "dressers 1")
        self.assert_written(
            prompt((BARE, BARE, BARE)), *SETTING, "player ann", "player bob", "player cid", "dressers 1",
        )

    def test_dressers(self):
        for dressers in range(7):
            self.assert_written(prompt(dressers=dressers), *SETTING, "player ann", f"dressers {dressers}")

    def test_wears(self):
        start = (((0, 1), (1,), (1, 2)), BARE)
        self.assert_written(
            prompt(start), *SETTING, "player ann", "player bob", "wears ann hat gown shoes", "dressers 1",
        )

    def test_wears_in_the_least_order(self):
        # Hat and shoes don't meet; the hat, that is the lesser one, comes first.
        start = (BARE, ((0,), (), (2,)), ((), (), ()))
        self.assert_written(
            prompt(start), *SETTING, "player ann", "player bob", "player cid", "wears bob hat shoes", "dressers 1",
        )
        start = (((1, 0), (1,), (1, 2)),)
        self.assert_written(prompt(start), *SETTING, "player ann", "wears ann gown hat shoes", "dressers 1")
        start = (((0, 1), (1,), (2, 1)),)
        self.assert_written(prompt(start), *SETTING, "player ann", "wears ann hat shoes gown", "dressers 1")

    def test_each_player_wears_something(self):
        start = (((), (), (2,)), ((0,), (), ()), BARE)
        self.assert_written(
            prompt(start), *SETTING, "player ann", "player bob", "player cid", "wears ann shoes", "wears bob hat",
            "dressers 1",
        )

    def test_beats_alone(self):
        self.assert_written(prompt(beats=12), *SETTING, "player ann", "dressers 1", "gap 12")

    def test_a_scene_at_moment_0(self):
        self.assert_written(prompt(scenes=[(0, [])]), *SETTING, "player ann", "dressers 1", "scene")
        self.assert_written(prompt(beats=2, scenes=[(0, [])]), *SETTING, "player ann", "dressers 1", "scene", "gap 2")

    def test_a_scene_at_the_end(self):
        self.assert_written(prompt(beats=3, scenes=[(3, [])]), *SETTING, "player ann", "dressers 1", "gap 3", "scene")

    def test_gaps_between_scenes(self):
        scenes = [(0, []), (2, []), (2, []), (5, []), (6, [])]
        self.assert_written(
            prompt(beats=10, scenes=scenes), *SETTING, "player ann", "dressers 1", "scene", "gap 2", "scene", "scene",
            "gap 3", "scene", "gap 1", "scene", "gap 4",
        )

    def test_wishes(self):
        wishes = [
            ("see", 0, 2, 1), ("bare", 1, 0), ("stand", 0, []), ("stand", 1, [2, 1, 0]), ("see", 1, 1, 0),
            ("stand", 0, [0]),
        ]
        self.assert_written(
            prompt((BARE, BARE), beats=1, scenes=[(1, wishes), (1, [("bare", 0, 2)])]), *SETTING, "player ann",
            "player bob", "dressers 1", "gap 1", "scene", "see ann feet gown", "bare bob head", "stand ann",
            "stand bob shoes gown hat", "see bob body hat", "stand ann hat", "scene", "bare ann feet",
        )

    def test_orders_are_written_as_they_were_told(self):
        # Not in the order of 9, in which the hat would come ahead of the shoes.
        scenes = [(0, [("stand", 0, [2, 0]), ("stand", 0, [0, 2])])]
        self.assert_written(
            prompt(scenes=scenes), *SETTING, "player ann", "dressers 1", "scene", "stand ann shoes hat",
            "stand ann hat shoes",
        )

    def test_a_large_prompt(self):
        start = dressed_wide([4, 0, 1], [3], [5])
        scenes = [(2 * number, [("bare", number % 3, number)] * 12) for number in range(6)]
        book = Book(wide(), [(1000000, 1000000)] * 6, start, 6, 12, scenes)
        told = Prompt(list("abcdef"), list("ghijkl"), list("mno"), book)
        rows = self.told(written_rows, told)
        self.assertEqual(rows[6:15], [
            "garment g 1000000 1000000 a", "garment h 1000000 1000000 a f", "garment i 1000000 1000000 a b c d e f",
            "garment j 1000000 1000000 f", "garment k 1000000 1000000 b d", "garment l 1000000 1000000 c e",
            "player m", "player n", "player o",
        ])
        self.assertEqual(rows[15:19], ["wears m g h k", "wears n j", "wears o l", "dressers 6"])
        self.assertEqual(rows[19:21], ["scene", "bare m a"])
        self.assertEqual(rows[-1], "gap 2")
        self.assertEqual(frozen(read_prompt(rows)), frozen(told))

    def test_outfits_are_written_out(self):
        rows = ["player ann", "outfit o shoes hat", "outfit all gown o", "wears ann all", "scene", "stand ann o"]
        self.assertEqual(
            self.told(written_rows, read_prompt(SETTING + rows)),
            SETTING + ["player ann", "wears ann gown hat shoes", "dressers 1", "scene", "stand ann shoes hat"],
        )

    def test_rows_are_brought_into_their_order(self):
        rows = [
            "dressers 2", "player bob", "place feet", "garment shoe 5 5 feet", "wears bob shoe", "dressers 3",
            "place head", "player ann", "garment gown 7 8 head feet", "gap 0", "gap 1", "gap 1", "gap 0", "scene",
            "gap 0",
        ]
        self.assertEqual(self.told(written_rows, read_prompt(rows)), [
            "place feet", "place head", "garment shoe 5 5 feet", "garment gown 7 8 feet head", "player bob",
            "player ann", "wears bob shoe", "dressers 3", "gap 2", "scene",
        ])

    def test_by_argument_name(self):
        self.assertEqual(written_rows(prompt=prompt()), SETTING + ["player ann", "dressers 1"])


class ManyPrompts(unittest.TestCase):
    """Read again, a written prompt tells the same."""

    def assert_same_again(self, told):
        rows = written_rows(told)
        again = read_prompt(rows)
        self.assertEqual(frozen(again), frozen(told))
        self.assertEqual(written_rows(again), rows)

    def test_of_books(self):
        books = drawn_books(61, 300, small_wardrobes(), 3, 12) + drawn_books(62, 100, larger_wardrobes(), 2, 12)
        for book in books:
            self.assert_same_again(named(book))

    def test_of_every_start(self):
        for wardrobe in small_wardrobes() + larger_wardrobes()[:2]:
            for standing in all_standings(wardrobe, 2):
                self.assert_same_again(named(Book(wardrobe, [(1, 2)] * wardrobe.many(), standing, 1, 0, [])))

    def test_of_rows(self):
        for rows, refused in drawn_prompts(63, 200):
            self.assert_same_again(read_prompt(rows))


if __name__ == "__main__":
    unittest.main()
