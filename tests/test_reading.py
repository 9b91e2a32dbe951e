"""Points 25 and 26: what rows tell, and the refusals of reading in their order."""

import unittest
from itertools import product

from helping import Asking, drawn_prompts, fault, frozen, modelled, prompt_of
from quickchange.errors import NoName, NoRow, OutOfPlace, TooMuch, Twice
from quickchange.prompts import Prompt
from quickchange.texts import read_prompt

PLACES = ["place head", "place body"]
GARMENTS = ["garment hat 1 2 head", "garment coat 3 4 body head", "garment sash 5 6 body"]
PLAYERS = ["player ann", "player bob"]
SETTING = PLACES + GARMENTS + PLAYERS
SIX = ["place head", "player ann"] + [f"garment {name} 1 1 head" for name in "abcdef"]


class Reading(Asking):
    def read(self, *rows):
        prompt = self.told(read_prompt, list(rows))
        self.assertIs(prompt.__class__, Prompt)
        return prompt

    def refused_at(self, error, rows, *told):
        """Sees that the last row is the one that is refused, alone behind the others and with more rows behind it."""
        fields = dict(zip(("row", "name"), (len(rows),) + told))
        self.refused(error, read_prompt, rows, **fields)
        self.refused(error, read_prompt, rows + ["scene", "gap 1"], **fields)
        self.refused(error, read_prompt, rows + ["no row at all"], **fields)


class Told(Reading):
    def test_the_least_prompt(self):
        prompt = self.read("place head", "player ann")
        self.assertEqual((prompt.places, prompt.garments, prompt.players), (["head"], [], ["ann"]))
        book = prompt.book
        self.assertEqual((book.wardrobe.spots(), book.wardrobe.many()), (1, 0))
        self.assertEqual((book.prices, book.start, book.dressers, book.beats, book.scenes), ([], (((),),), 1, 0, []))

    def test_names_are_in_the_order_of_the_rows(self):
        prompt = self.read(
            "player bob", "place leg", "place arm", "garment z 1 1 arm", "player ann", "place head",
            "garment a 2 2 head",
        )
        self.assertEqual(prompt.places, ["leg", "arm", "head"])
        self.assertEqual(prompt.garments, ["z", "a"])
        self.assertEqual(prompt.players, ["bob", "ann"])
        self.assertEqual([prompt.book.wardrobe.covers(garment) for garment in (0, 1)], [[1], [2]])
        self.assertEqual(prompt.book.wardrobe.spots(), 3)
        self.assertEqual(len(prompt.book.start), 2)

    def test_garments(self):
        book = self.read(*SETTING).book
        self.assertEqual([book.wardrobe.covers(garment) for garment in range(3)], [[0], [0, 1], [1]])
        self.assertEqual(book.prices, [(1, 2), (3, 4), (5, 6)])

    def test_a_garments_places_in_any_order(self):
        rows = [f"place {name}" for name in "abcdef"] + ["player q", "garment g 0 1000000 f b e a d c"]
        book = self.read(*rows).book
        self.assertEqual(book.wardrobe.covers(0), [0, 1, 2, 3, 4, 5])
        self.assertEqual(book.prices, [(0, 1000000)])

    def test_wears(self):
        book = self.read(*SETTING, "wears ann hat coat", "wears bob sash").book
        self.assertEqual(book.start, (((0, 1), (1,)), ((), (2,))))

    def test_wears_over_what_rows_ahead_put_on(self):
        book = self.read(*SETTING, "wears ann coat", "wears bob sash", "wears ann hat").book
        self.assertEqual(book.start, (((1, 0), (1,)), ((), (2,))))

    def test_wears_ahead_of_further_places_and_players(self):
        book = self.read(
            "place head", "garment hat 1 1 head", "player ann", "wears ann hat", "place body", "player bob",
        ).book
        self.assertEqual(book.start, (((0,), ()), ((), ())))

    def test_outfits(self):
        book = self.read(
            *SETTING, "outfit one hat coat", "outfit two sash one", "wears ann two", "scene", "stand bob two",
            "stand ann one sash",
        ).book
        self.assertEqual(book.start[0], modelled(book.wardrobe, [2, 0, 1]))
        self.assertEqual(book.scenes, [(0, [("stand", 1, [2, 0, 1]), ("stand", 0, [0, 1, 2])])])

    def test_outfits_within_outfits(self):
        book = self.read(
            *SIX, "outfit x f", "outfit y e x d", "outfit z c y b", "outfit all z a", "wears ann all",
        ).book
        self.assertEqual(book.start, (((2, 4, 5, 3, 1, 0),),))

    def test_outfits_a_thousand_deep(self):
        names = ["".join(letters) for letters in product("abcdefghij", repeat=3)]
        rows = [f"outfit {name} {within}" for within, name in zip(["hat"] + names, names)]
        book = self.read(*SETTING, *rows, f"wears ann {names[-1]}").book
        self.assertEqual(book.start[0], ((0,), ()))
        self.refused_at(Twice, SETTING + rows + [f"wears ann {names[-1]} {names[500]}"], "hat")

    def test_an_outfit_may_be_used_again(self):
        rows = SETTING + ["outfit one hat coat", "scene", "stand ann one", "stand bob one", "stand ann one"]
        book = self.read(*rows).book
        self.assertEqual(book.scenes[0][1], [("stand", 0, [0, 1]), ("stand", 1, [0, 1]), ("stand", 0, [0, 1])])

    def test_dressers(self):
        self.assertEqual(self.read(*SETTING).book.dressers, 1)
        self.assertEqual(self.read(*SETTING, "dressers 0").book.dressers, 0)
        self.assertEqual(self.read(*SETTING, "dressers 3", "dressers 6").book.dressers, 6)
        self.assertEqual(self.read("dressers 5", *SETTING, "dressers 2").book.dressers, 2)

    def test_gaps_and_scenes(self):
        book = self.read(*SETTING, "scene", "gap 2", "gap 1", "scene", "scene", "gap 0", "scene", "gap 4").book
        self.assertEqual(book.beats, 7)
        self.assertEqual(book.scenes, [(0, []), (3, []), (3, []), (3, [])])

    def test_twelve_beats_and_six_scenes(self):
        rows = ["scene", "gap 12", "gap 0", "scene", "scene", "scene", "scene", "scene", "gap 0"]
        book = self.read(*SETTING, *rows).book
        self.assertEqual(book.beats, 12)
        self.assertEqual([moment for moment, wishes in book.scenes], [0, 12, 12, 12, 12, 12])

    def test_wishes(self):
        book = self.read(
            *SETTING, "gap 1", "scene", "see ann body coat", "bare bob head", "stand ann", "stand bob sash hat",
            "see bob head sash", "scene", "bare ann body",
        ).book
        self.assertEqual(book.scenes, [
            (1, [
                ("see", 0, 1, 1), ("bare", 1, 0), ("stand", 0, []), ("stand", 1, [2, 0]), ("see", 1, 0, 2),
            ]),
            (1, [("bare", 0, 1)]),
        ])

    def test_twelve_wishes_of_each_scene(self):
        rows = ["scene"] + ["bare ann head"] * 12
        book = self.read(*SETTING, *rows, *rows).book
        self.assertEqual(book.scenes, [(0, [("bare", 0, 0)] * 12)] * 2)

    def test_six_places_six_garments_three_players(self):
        rows = [f"place {name}" for name in "abcdef"] + [f"garment {name} 1 1 a" for name in "ghijkl"]
        prompt = self.read(*rows, "player m", "player n", "player o")
        self.assertEqual(prompt.places + prompt.garments + prompt.players, list("abcdefghijklmno"))
        self.assertEqual((prompt.book.wardrobe.spots(), prompt.book.wardrobe.many()), (6, 6))
        self.assertEqual(len(prompt.book.start), 3)

    def test_many_outfits(self):
        rows = [f"outfit o{name} hat" for name in "abcdefghijklmnop"]
        self.assertEqual(len(self.read(*SETTING, *rows).garments), 3)

    def test_no_word_is_kept(self):
        prompt = self.read(
            "place place", "place on", "player player", "garment garment 1 1 place", "garment scene 1 1 on place",
            "outfit outfit garment scene", "wears player outfit", "gap 1", "scene", "see player place scene",
            "stand player outfit",
        )
        self.assertEqual((prompt.places, prompt.garments), (["place", "on"], ["garment", "scene"]))
        self.assertEqual(prompt.players, ["player"])
        self.assertEqual(prompt.book.start, (((0, 1), (1,)),))

    def test_by_argument_name(self):
        self.assertEqual(read_prompt(rows=["place head", "player ann"]).players, ["ann"])

    def test_two_prompts_of_the_same_rows(self):
        rows = SETTING + ["scene", "stand ann hat"]
        one, other = read_prompt(rows), read_prompt(rows)
        self.assertIsNot(one.book, other.book)
        one.players.append("eve")
        one.book.scenes[0][1][0][2].append(1)
        one.book.prices.clear()
        self.assertEqual(frozen(other), frozen(read_prompt(rows)))


class OutOfPlaceRows(Reading):
    def test_the_setting_behind_a_gap_or_a_scene(self):
        rows = [
            "place leg", "garment belt 1 1 head", "player eve", "outfit full hat coat", "wears ann hat", "dressers 2",
        ]
        for row in rows:
            self.read(*SETTING, row)
            for ahead in (
                ["gap 1"], ["gap 0"], ["scene"], ["gap 2", "scene"], ["scene", "bare ann head"], ["scene", "gap 0"],
            ):
                self.refused_at(OutOfPlace, SETTING + ahead + [row])

    def test_wishes_with_no_scene_ahead(self):
        for row in ("see ann head hat", "bare ann head", "stand ann", "stand ann hat"):
            self.refused_at(OutOfPlace, SETTING + [row])
            self.refused_at(OutOfPlace, SETTING + ["gap 1", row])

    def test_wishes_with_a_gap_since_the_last_scene(self):
        for row in ("see ann head hat", "bare ann head", "stand ann", "stand ann hat"):
            self.read(*SETTING, "gap 1", "scene", row)
            for gap in ("gap 0", "gap 1"):
                self.refused_at(OutOfPlace, SETTING + ["scene", gap, row])
                self.refused_at(OutOfPlace, SETTING + ["scene", "bare ann body", gap, row])
                self.read(*SETTING, "scene", gap, "scene", row)

    def test_a_gap_or_a_scene_may_be_the_first_row(self):
        self.refused_at(OutOfPlace, ["gap 1", "place head"])
        self.refused_at(OutOfPlace, ["scene", "player ann"])
        self.refused(OutOfPlace, read_prompt, ["scene"], row=2)

    def test_behind_the_last_row(self):
        for rows in (
            [], ["place head"], ["player ann"], ["dressers 1"], ["scene"], ["gap 1", "scene", "gap 2"],
            PLACES + GARMENTS, PLACES + ["gap 1"], PLAYERS + ["scene"], PLACES + GARMENTS + ["outfit full hat coat"],
        ):
            self.refused(OutOfPlace, read_prompt, rows, row=len(rows) + 1)

    def test_a_fault_of_a_row_is_told_ahead_of_that_of_the_end(self):
        self.refused(NoRow, read_prompt, ["place head", "scenes"], row=2)
        self.refused(NoName, read_prompt, ["place head", "garment hat 1 1 leg"], row=2, name="leg")
        self.refused(OutOfPlace, read_prompt, ["place head", "gap 1", "place leg", "gap 1"], row=3)


class NoNames(Reading):
    def test_a_new_name_that_stands_already(self):
        rows = SETTING + ["outfit full hat coat"]
        for name in ("head", "body", "hat", "sash", "ann", "bob", "full"):
            for row in (f"place {name}", f"player {name}", f"garment {name} 1 1 head", f"outfit {name} hat"):
                self.refused_at(NoName, rows + [row], name)

    def test_a_name_of_another_kind(self):
        rows = SETTING + ["outfit full hat coat"]
        no_place = ("hat", "ann", "full", "nobody")
        no_garment = ("head", "ann", "full", "nobody")
        no_player = ("head", "hat", "full", "nobody")
        no_piece = ("head", "ann", "nobody")
        for name in no_place:
            self.refused_at(NoName, rows + [f"garment new 1 1 {name}"], name)
            self.refused_at(NoName, rows + [f"garment new 1 1 head {name} body"], name)
            self.refused_at(NoName, rows + ["scene", f"see ann {name} hat"], name)
            self.refused_at(NoName, rows + ["scene", f"bare ann {name}"], name)
        for name in no_garment:
            self.refused_at(NoName, rows + ["scene", f"see ann head {name}"], name)
        for name in no_player:
            self.refused_at(NoName, rows + [f"wears {name} hat"], name)
            self.refused_at(NoName, rows + ["scene", f"see {name} head hat"], name)
            self.refused_at(NoName, rows + ["scene", f"bare {name} head"], name)
            self.refused_at(NoName, rows + ["scene", f"stand {name} hat"], name)
        for name in no_piece:
            self.refused_at(NoName, rows + [f"outfit new {name}"], name)
            self.refused_at(NoName, rows + [f"outfit new hat {name} coat"], name)
            self.refused_at(NoName, rows + [f"wears ann {name}"], name)
            self.refused_at(NoName, rows + [f"wears ann sash {name} hat"], name)
            self.refused_at(NoName, rows + ["scene", f"stand ann {name}"], name)
            self.refused_at(NoName, rows + ["scene", f"stand ann hat {name}"], name)

    def test_from_the_left(self):
        rows = SETTING + ["scene"]
        self.refused_at(NoName, rows + ["see nobody nowhere nothing"], "nobody")
        self.refused_at(NoName, rows + ["see ann nowhere nothing"], "nowhere")
        self.refused_at(NoName, rows + ["bare hat hat"], "hat")
        self.refused_at(NoName, rows + ["stand ann hat nobody nothing"], "nobody")
        self.refused_at(NoName, SETTING + ["garment hat 1 1 nowhere"], "hat")
        self.refused_at(NoName, SETTING + ["garment new 1 1 x y"], "x")
        self.refused_at(NoName, SETTING + ["outfit ann x"], "ann")
        self.refused_at(NoName, SETTING + ["wears x y"], "x")

    def test_a_row_does_not_bring_its_own_name_yet(self):
        self.refused_at(NoName, SETTING + ["outfit new new"], "new")
        self.refused_at(NoName, SETTING + ["outfit new hat new"], "new")
        self.refused_at(NoName, SETTING + ["garment new 1 1 new"], "new")

    def test_what_comes_later_does_not_count(self):
        self.refused_at(NoName, ["garment hat 1 1 head"], "head")
        self.refused(NoName, read_prompt, ["garment hat 1 1 head", "place head", "player ann"], row=1, name="head")
        self.refused(NoName, read_prompt, SETTING + ["outfit a b", "outfit b hat"], row=8, name="b")


class TwiceRows(Reading):
    def test_a_place_of_garments(self):
        self.refused_at(Twice, SETTING + ["garment new 1 1 head head"], "head")
        self.refused_at(Twice, SETTING + ["garment new 1 1 head body head"], "head")
        self.refused_at(Twice, SETTING + ["garment new 1 1 head body body head"], "body")

    def test_a_list_of_garments(self):
        for ahead, word in (([], "outfit new"), ([], "wears ann"), (["scene"], "stand ann")):
            rows = SETTING + ["outfit one hat coat", "outfit two sash one"] + ahead
            for pieces, name in (
                ("hat hat", "hat"), ("hat coat hat", "hat"), ("hat coat coat hat", "coat"),
                # Outfits written out, and outfits within them.
                ("one hat", "hat"), ("hat one", "hat"), ("coat one", "coat"), ("one one", "hat"), ("two sash", "sash"),
                ("one two", "hat"), ("two one", "hat"), ("coat two", "coat"), ("sash coat two", "sash"),
                ("two two", "sash"), ("one coat hat", "coat"), ("sash hat coat one", "hat"),
            ):
                self.refused_at(Twice, rows + [f"{word} {pieces}"], name)

    def test_worn_already(self):
        rows = SETTING + ["outfit one hat coat", "wears ann coat"]
        for row, name in (
            ("wears ann coat", "coat"), ("wears bob coat", "coat"), ("wears bob hat coat", "coat"),
            ("wears bob one", "coat"), ("wears ann sash one", "coat"), ("wears bob coat coat", "coat"),
        ):
            self.refused_at(Twice, rows + [row], name)
        self.assertEqual(self.read(*rows, "wears bob hat sash").book.start, (((1,), (1,)), ((0,), (2,))))

    def test_worn_across_rows_and_players(self):
        rows = SETTING + ["wears ann coat", "wears bob hat"]
        self.refused_at(Twice, rows + ["wears bob sash hat"], "hat")
        self.refused_at(Twice, rows + ["wears ann sash hat coat"], "hat")
        self.refused_at(Twice, rows + ["wears ann coat hat"], "coat")
        self.refused_at(Twice, rows + ["wears bob sash", "wears ann sash"], "sash")

    def test_the_first_from_the_left_whether_worn_or_ahead(self):
        rows = SETTING + ["wears ann coat"]
        self.refused_at(Twice, rows + ["wears bob hat hat coat"], "hat")
        self.refused_at(Twice, rows + ["wears bob hat coat hat"], "coat")

    def test_what_is_worn_is_no_hindrance_elsewhere(self):
        rows = SETTING + ["wears ann coat hat", "outfit one coat hat", "scene", "stand bob one", "stand ann sash coat"]
        self.assertEqual(self.read(*rows).book.scenes[0][1], [("stand", 1, [1, 0]), ("stand", 0, [2, 1])])


class TooMuchRows(Reading):
    def test_a_seventh_place(self):
        rows = [f"place {name}" for name in "abcdef"] + ["player q"]
        self.read(*rows)
        self.refused_at(TooMuch, rows + ["place g"])

    def test_a_seventh_garment(self):
        self.read(*SIX)
        self.refused_at(TooMuch, SIX + ["garment g 1 1 head"])

    def test_a_fourth_player(self):
        rows = SETTING + ["player eve"]
        self.read(*rows)
        self.refused_at(TooMuch, rows + ["player fay"])

    def test_a_seventh_scene(self):
        for between in ([], ["gap 1"], ["gap 2"]):
            rows = SETTING + (["scene"] + between) * 6
            self.read(*rows)
            self.refused_at(TooMuch, rows + ["scene"])

    def test_a_thirteenth_wish(self):
        for row in ("see ann head hat", "bare ann head", "stand ann", "stand ann hat"):
            rows = SETTING + ["scene", "scene"] + ["bare bob head"] * 12
            self.read(*rows)
            self.refused_at(TooMuch, rows + [row])
            self.read(*rows, "scene", row)

    def test_a_thirteenth_beat(self):
        self.refused_at(TooMuch, SETTING + ["gap 12", "gap 1"])
        self.refused_at(TooMuch, SETTING + ["gap 6", "scene", "gap 6", "gap 1"])
        self.refused_at(TooMuch, SETTING + ["gap 1", "gap 12"])
        self.refused_at(TooMuch, SETTING + ["gap 7", "scene", "gap 6"])
        self.read(*SETTING, "gap 12", "gap 0")


class TwoAtOnce(Reading):
    """Of two refusals that are due at once the one that is told first is raised."""

    def test_no_row_ahead_of_all(self):
        self.refused_at(NoRow, SETTING + ["gap 1", "place Leg"])
        self.refused_at(NoRow, SETTING + ["bare ann"])
        self.refused_at(NoRow, SETTING + ["garment hat 1 1 head Leg"])
        self.refused_at(NoRow, SETTING + ["outfit new hat hat 1"])
        self.refused_at(NoRow, SETTING + ["gap 12", "gap 13"])
        self.refused_at(NoRow, SIX + ["garment a 1 1"])

    def test_out_of_place_ahead_of_the_rest(self):
        self.refused_at(OutOfPlace, SETTING + ["gap 1", "place head"])
        self.refused_at(OutOfPlace, SETTING + ["scene", "wears nobody nothing"])
        self.refused_at(OutOfPlace, SETTING + ["see nobody nowhere nothing"])
        self.refused_at(OutOfPlace, SETTING + ["scene", "outfit new hat hat"])
        self.refused_at(OutOfPlace, SETTING + ["gap 1", "stand ann hat hat"])
        self.refused_at(OutOfPlace, SETTING + ["player eve", "scene", "player fay"])
        self.refused_at(OutOfPlace, SETTING + ["scene"] + ["bare ann head"] * 12 + ["gap 0", "bare ann head"])

    def test_no_name_ahead_of_twice(self):
        self.refused_at(NoName, SETTING + ["garment new 1 1 head head leg"], "leg")
        self.refused_at(NoName, SETTING + ["garment hat 1 1 head head"], "hat")
        self.refused_at(NoName, SETTING + ["outfit new hat hat x"], "x")
        self.refused_at(NoName, SETTING + ["wears ann hat hat head"], "head")
        self.refused_at(NoName, SETTING + ["scene", "stand ann hat hat ann"], "ann")

    def test_no_name_ahead_of_too_much(self):
        self.refused_at(NoName, SIX + ["garment a 1 1 head"], "a")
        self.refused_at(NoName, SIX + ["garment g 1 1 leg"], "leg")
        self.refused_at(NoName, [f"place {name}" for name in "abcdef"] + ["place a"], "a")
        self.refused_at(NoName, SETTING + ["player eve", "player ann"], "ann")
        self.refused_at(NoName, SETTING + ["scene"] + ["bare ann head"] * 12 + ["bare ann leg"], "leg")

    def test_twice_ahead_of_too_much(self):
        self.refused_at(Twice, SIX + ["garment g 1 1 head head"], "head")
        self.refused_at(Twice, SETTING + ["scene"] + ["bare ann head"] * 12 + ["stand ann hat hat"], "hat")

    def test_the_first_row_with_a_fault(self):
        self.refused(NoName, read_prompt, SETTING + ["player ann", "no row", "gap 13"], row=8, name="ann")
        self.refused(TooMuch, read_prompt, SETTING + ["gap 12", "gap 1", "place head", "place"], row=9)
        self.refused(Twice, read_prompt, SETTING + ["wears ann hat", "wears bob hat", "Scene"], row=9, name="hat")


class ManyPrompts(unittest.TestCase):
    """Many drawn prompts, by the document's words."""

    def test_what_they_tell(self):
        for rows, refused in drawn_prompts(51, 300):
            self.assertEqual(frozen(read_prompt(rows)), frozen(prompt_of(rows)))

    def test_what_they_are_refused_for(self):
        found = {}
        for rows, refused in drawn_prompts(52, 200):
            for many, row in refused:
                error, fields = fault(rows[:many], row)
                with self.assertRaises(error) as caught:
                    read_prompt(rows[:many] + [row])
                self.assertIs(caught.exception.__class__, error)
                self.assertEqual(vars(caught.exception), fields)
                found[error] = found.get(error, 0) + 1
        for error in (OutOfPlace, NoName, Twice, TooMuch):
            self.assertGreater(found[error], 50)


if __name__ == "__main__":
    unittest.main()
