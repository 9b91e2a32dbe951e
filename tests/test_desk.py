"""Point 28: the desk."""

import random
import unittest
from itertools import combinations

from helping import (
    after, after_all, all_beats, all_standings, cost, drawn_books, drawn_prompts, fault, just_300_at_4,
    larger_wardrobes, may_be_at_once, modelled, named, one_above_at_1, one_above_at_4, shows_all, small_wardrobes,
    walked,
)
from quickchange.books import Book
from quickchange.desk import Desk
from quickchange.errors import (
    Covered, Crossed, NoBeat, NoHands, NoName, NoRow, NotSeen, NotWorn, OutOfPlace, TooMany, TooMuch, Twice, Worn,
)
from quickchange.others import needed_dressers
from quickchange.plans import plan_from
from quickchange.quickest import quickest_change
from quickchange.texts import read_prompt, written_rows

# hat 0, coat 1, sash 2; ann 0, bob 1.
SETTING = [
    "place head", "place body", "garment hat 1 2 head", "garment coat 3 4 body head", "garment sash 5 6 body",
    "player ann", "player bob", "outfit full hat coat", "wears ann hat", "dressers 2",
]
# The one plan with the least trouble: the coat goes over the hat, and comes off as the other one gets the sash.
PLAY = SETTING + [
    "gap 1", "scene", "see ann body coat", "bare bob body", "gap 1", "scene", "bare ann body", "stand bob sash",
]


class Telling(unittest.TestCase):
    def desk(self, rows):
        """A desk that keeps these rows."""
        desk = Desk()
        self.tell(desk, rows)
        return desk

    def tell(self, desk, rows):
        for row in rows:
            self.assertEqual(desk.say(row), "ok", row)

    def answers(self, desk, **told):
        """Sees what a desk answers to rows of one word."""
        for row, text in told.items():
            self.assertEqual(desk.say(row), text, row)

    def state(self, desk):
        """All that a desk tells of where it stands."""
        told = {}
        for row in ("now", "moment", "spent", "left", "plan", "quickest ann"):
            try:
                told[row] = desk.say(row)
            except (OutOfPlace, NoName, TooMany) as error:
                told[row] = (error.__class__, error.args)
        return told

    def refuses(self, desk, row, error, /, **fields):
        """Sees that a row is refused with this very class, and these fields, and that it changes nothing."""
        before = self.state(desk)
        with self.assertRaises(error) as caught:
            desk.say(row)
        self.assertIs(caught.exception.__class__, error)
        self.assertEqual(vars(caught.exception), fields, row)
        self.assertEqual(self.state(desk), before, row)


class Keeping(Telling):
    def test_each_row_of_a_prompt(self):
        self.desk(PLAY)

    def test_a_new_desk(self):
        desk = Desk()
        for row in ("plan", "left", "spent", "moment", "now", "beat", "beat q on g", "quickest q", "quickest q g"):
            self.refuses(desk, row, OutOfPlace, row=1)
        self.assertEqual(desk.say("again"), "ok")

    def test_without_a_player_or_a_place(self):
        for rows in (
            ["place head"], ["player ann"], ["place head", "garment hat 1 1 head", "outfit full hat"], ["dressers 3"],
            ["scene"], ["player ann", "player bob", "gap 3", "scene"], ["place head", "gap 1"],
        ):
            desk = self.desk(rows)
            for row in ("plan", "left", "spent", "moment", "now", "beat", "beat ann on hat", "quickest ann"):
                self.refuses(desk, row, OutOfPlace, row=len(rows) + 1)
            self.assertEqual(desk.say("again"), "ok")
            self.refuses(desk, "beat ann on", NoRow, row=len(rows) + 1)
            self.refuses(desk, "plan now", NoRow, row=len(rows) + 1)
            self.refuses(desk, "again now", NoRow, row=len(rows) + 1)

    def test_the_end_is_never_refused(self):
        desk = self.desk(["place head", "scene"])
        self.refuses(desk, "player ann", OutOfPlace, row=3)
        self.tell(desk, ["gap 1", "scene"])
        self.refuses(desk, "now", OutOfPlace, row=5)

    def test_from_the_first_place_and_player_on(self):
        desk = self.desk(["player ann"])
        self.refuses(desk, "now", OutOfPlace, row=2)
        self.tell(desk, ["place head"])
        self.answers(desk, now="ann:", moment="0", spent="0", left="0", plan="0")

    def test_rows_refused_as_reading_refuses_them(self):
        desk = self.desk(SETTING)
        self.refuses(desk, "place", NoRow, row=11)
        self.refuses(desk, "", NoRow, row=11)
        self.refuses(desk, "scenes", NoRow, row=11)
        self.refuses(desk, "bare ann head", OutOfPlace, row=11)
        self.refuses(desk, "place hat", NoName, row=11, name="hat")
        self.refuses(desk, "wears bob coat hat", Twice, row=11, name="hat")
        self.tell(desk, ["player eve"])
        self.refuses(desk, "player fay", TooMuch, row=12)
        self.tell(desk, ["gap 12"])
        self.refuses(desk, "gap 1", TooMuch, row=13)
        self.refuses(desk, "place leg", OutOfPlace, row=13)

    def test_refused_rows_are_not_counted(self):
        desk = Desk()
        for number in (1, 1):
            self.refuses(desk, "garment hat 1 1 head", NoName, row=number, name="head")
        self.tell(desk, ["place head"])
        self.refuses(desk, "place head", NoName, row=2, name="head")
        self.refuses(desk, "now", OutOfPlace, row=2)
        self.refuses(desk, "no row", NoRow, row=2)
        self.tell(desk, ["player ann"])
        self.refuses(desk, "no row", NoRow, row=3)

    def test_rows_that_are_not_kept_are_not_counted(self):
        desk = self.desk(PLAY)
        self.tell(desk, ["again", "beat ann on coat", "again"])
        self.answers(desk, now="ann: hat; bob:", plan="12; ann on coat; ann off coat, bob on sash")
        self.refuses(desk, "no row", NoRow, row=len(PLAY) + 1)

    def test_a_refused_row_brings_no_name(self):
        desk = self.desk(SETTING)
        self.refuses(desk, "outfit new hat hat", Twice, row=11, name="hat")
        self.refuses(desk, "garment new 1 1 head leg", NoName, row=11, name="leg")
        self.tell(desk, ["place new"])

    def test_a_refused_row_puts_nothing_on(self):
        desk = self.desk(SETTING)
        self.refuses(desk, "wears bob sash coat hat", Twice, row=11, name="hat")
        self.answers(desk, now="ann: hat; bob:")
        self.tell(desk, ["wears bob sash coat"])
        self.answers(desk, now="ann: hat; bob: sash coat")

    def test_a_refused_gap_and_a_refused_wish(self):
        desk = self.desk(SETTING + ["gap 11", "scene"])
        self.refuses(desk, "gap 2", TooMuch, row=13)
        # The scene still takes wishes, and no beat has passed.
        self.tell(desk, ["bare ann head"])
        self.refuses(desk, "bare ann leg", NoName, row=14, name="leg")
        self.tell(desk, ["gap 1"])

    def test_two_desks_know_nothing_of_one_another(self):
        one, other = self.desk(PLAY), Desk()
        self.refuses(other, "now", OutOfPlace, row=1)
        self.tell(other, PLAY[:-3])
        self.tell(one, ["beat ann on coat"])
        self.answers(other, moment="0", spent="0", now="ann: hat; bob:")
        self.tell(other, ["beat ann on coat", "again", "scene"])
        self.answers(one, moment="1", spent="3", now="ann: hat coat; bob:")
        self.answers(other, moment="0", spent="0")


class Answers(Telling):
    def test_a_plan(self):
        self.answers(self.desk(PLAY), plan="12; ann on coat; ann off coat, bob on sash", left="12")

    def test_from_the_present_moment_on(self):
        desk = self.desk(PLAY)
        self.tell(desk, ["beat ann on coat"])
        self.answers(desk, plan="9; ann off coat, bob on sash", left="9", spent="3", moment="1")
        self.tell(desk, ["beat ann off coat bob on sash"])
        self.answers(desk, plan="0", left="0", spent="12", moment="2", now="ann: hat; bob: sash")

    def test_a_plan_without_beats(self):
        self.answers(self.desk(SETTING), plan="0", left="0", moment="0", spent="0")

    def test_beats_without_deeds(self):
        self.answers(self.desk(SETTING + ["gap 3"]), plan="0; -; -; -", left="0")
        self.answers(self.desk(SETTING + ["gap 1", "scene", "see bob head hat"]), plan="none", left="none")
        rows = ["gap 1", "scene", "stand ann hat", "gap 1", "scene", "stand bob sash", "gap 1"]
        rows[3:3] = ["bare bob body"]
        self.answers(self.desk(SETTING + rows), plan="5; -; bob on sash; -", left="5")

    def test_deeds_of_a_beat_are_sorted(self):
        rows = SETTING[:-1] + ["dressers 6", "gap 1", "scene", "stand ann sash", "stand bob coat"]
        desk = self.desk(rows)
        self.answers(desk, plan="10; ann off hat, ann on sash, bob on coat", left="10")
        self.tell(desk, ["beat bob on coat ann on sash ann off hat"])
        self.answers(desk, now="ann: sash; bob: coat", spent="10", plan="0")

    def test_no_plan(self):
        desk = self.desk(SETTING + ["gap 1", "scene", "bare ann head", "see ann head hat"])
        self.answers(desk, plan="none", left="none", spent="0", moment="0")

    def test_no_plan_any_more(self):
        desk = self.desk(PLAY[:-2] + ["stand bob hat"])
        self.answers(desk, plan="none", left="none")
        desk = self.desk(SETTING + ["gap 2", "scene", "stand bob hat"])
        self.answers(desk, plan="3; ann off hat; bob on hat")
        self.tell(desk, ["beat"])
        self.answers(desk, plan="none", left="none", spent="0", moment="1")
        self.tell(desk, ["again"])
        self.answers(desk, left="3")

    def test_large_troubles(self):
        rows = ["place p", "garment g 1000000 1000000 p", "player q", "gap 1", "scene", "see q p g", "gap 1", "scene"]
        desk = self.desk(rows + ["bare q p"])
        self.answers(desk, plan="2000000; q on g; q off g", left="2000000")

    def test_no_dresser(self):
        desk = self.desk(SETTING + ["dressers 0", "gap 2", "scene", "see ann head hat"])
        self.answers(desk, plan="0; -; -")
        self.tell(desk, ["beat"])
        self.answers(desk, moment="1", spent="0")
        self.refuses(desk, "beat ann off hat", NoHands)

    def test_now(self):
        desk = self.desk(SETTING + ["wears ann sash", "wears bob coat", "player cid"])
        self.answers(desk, now="ann: hat sash; bob: coat; cid:")
        self.answers(self.desk(["place a", "player b"]), now="b:")

    def test_now_in_the_least_order(self):
        desk = self.desk([row for row in SETTING if row != "wears ann hat"] + ["wears bob sash coat", "wears bob hat"])
        self.answers(desk, now="ann:; bob: sash coat hat")
        rows = ["place a", "place b", "garment x 1 1 a", "garment y 1 1 b", "player q", "wears q y x"]
        self.answers(self.desk(rows), now="q: x y")

    def test_quickest(self):
        desk = self.desk(PLAY)
        for row, beats in (
            ("quickest ann hat", "0"), ("quickest ann", "1"), ("quickest ann hat sash", "1"),
            ("quickest ann sash hat", "1"), ("quickest ann sash", "1"), ("quickest ann coat", "2"),
            ("quickest ann coat hat", "3"), ("quickest ann full", "1"), ("quickest ann full sash", "2"),
            ("quickest bob", "0"), ("quickest bob sash", "1"), ("quickest bob coat sash", "2"),
        ):
            self.assertEqual(desk.say(row), beats, row)
        self.answers(desk, moment="0", spent="0", now="ann: hat; bob:")

    def test_quickest_needs_no_beats_and_no_dressers(self):
        desk = self.desk(SETTING + ["dressers 0"])
        self.assertEqual(desk.say("quickest ann coat hat"), "3")

    def test_quickest_from_the_present_standing(self):
        desk = self.desk(PLAY)
        self.tell(desk, ["beat ann on coat"])
        self.assertEqual(desk.say("quickest ann full"), "0")
        self.assertEqual(desk.say("quickest ann"), "2")
        self.assertEqual(desk.say("quickest ann coat hat"), "4")
        self.refuses(desk, "quickest bob coat", Twice, row=len(PLAY) + 1, name="coat")

    def test_quickest_refused(self):
        desk = self.desk(PLAY)
        number = len(PLAY) + 1
        for row, name in (
            ("quickest eve", "eve"), ("quickest hat", "hat"), ("quickest full hat", "full"),
            ("quickest eve fay", "eve"), ("quickest ann eve hat", "eve"), ("quickest ann hat ann", "ann"),
            ("quickest ann head", "head"),
            # Told ahead of Twice, wherever it stands.
            ("quickest ann hat hat eve fay", "eve"), ("quickest bob hat eve", "eve"),
        ):
            self.refuses(desk, row, NoName, row=number, name=name)
        for row, name in (
            ("quickest ann hat hat", "hat"), ("quickest ann sash hat hat sash", "hat"),
            ("quickest ann full hat", "hat"), ("quickest ann coat full", "coat"), ("quickest ann full full", "hat"),
            # What another player wears.
            ("quickest bob hat", "hat"), ("quickest bob full", "hat"), ("quickest bob sash coat hat", "hat"),
            ("quickest bob sash sash hat", "sash"), ("quickest bob sash hat sash", "hat"),
        ):
            self.refuses(desk, row, Twice, row=number, name=name)

    def test_again(self):
        desk = self.desk(PLAY)
        self.tell(desk, ["beat ann on coat", "beat ann off coat bob on sash"])
        self.answers(desk, moment="2", spent="12", again="ok")
        self.answers(desk, moment="0", spent="0", now="ann: hat; bob:", left="12", again="ok")

    def test_scenes_of_moment_0_that_the_start_does_not_show(self):
        desk = self.desk(SETTING + ["scene", "bare ann head", "gap 2", "scene", "bare ann head"])
        self.answers(desk, plan="none", left="none")
        self.tell(desk, ["beat"])
        # Behind moment 0 its scenes are no longer asked.
        self.answers(desk, plan="2; ann off hat", left="2")
        self.tell(desk, ["beat ann off hat"])
        self.answers(desk, plan="0", left="0", spent="2")

    def test_names_that_are_words_of_the_language(self):
        desk = self.desk([
            "place now", "garment on 1 1 now", "garment off 2 2 now", "player beat", "gap 2", "scene",
            "see beat now on",
        ])
        self.tell(desk, ["beat beat on on"])
        self.answers(desk, now="beat: on", spent="1", plan="0; -")
        self.tell(desk, ["again", "beat beat on off"])
        self.answers(desk, now="beat: off", plan="1; beat on on")
        self.assertEqual(desk.say("quickest beat on off"), "3")

    def test_names_that_are_rows_of_the_desk(self):
        desk = self.desk(["place now", "garment again 1 1 now", "player plan", "player left", "gap 1"])
        self.assertEqual(desk.say("quickest plan again"), "1")
        self.tell(desk, ["beat plan on again"])
        self.assertEqual(desk.say("quickest plan again"), "0")
        self.answers(desk, now="plan: again; left:", moment="1", spent="1")


class Beats(Telling):
    def test_done(self):
        desk = self.desk(SETTING + ["gap 4"])
        self.tell(desk, ["beat bob on sash ann off hat"])
        self.answers(desk, now="ann:; bob: sash", moment="1", spent="7")
        self.tell(desk, ["beat"])
        self.answers(desk, now="ann:; bob: sash", moment="2", spent="7")
        self.tell(desk, ["beat bob on coat", "beat bob off coat ann on hat"])
        self.answers(desk, now="ann: hat; bob: sash", moment="4", spent="15")

    def test_no_name(self):
        desk = self.desk(PLAY)
        for row, name in (
            ("beat eve on hat", "eve"), ("beat hat on ann", "hat"), ("beat ann on ann", "ann"),
            ("beat ann on full", "full"), ("beat ann off head", "head"), ("beat ann on coat bob on eve", "eve"),
            ("beat ann on coat eve on fay", "eve"), ("beat ann on x bob on y", "x"),
        ):
            self.refuses(desk, row, NoName, row=len(PLAY) + 1, name=name)

    def test_no_beat(self):
        desk = self.desk(SETTING)
        self.refuses(desk, "beat", NoBeat)
        self.refuses(desk, "beat ann off hat", NoBeat)
        desk = self.desk(SETTING + ["gap 2"])
        self.tell(desk, ["beat", "beat"])
        self.refuses(desk, "beat", NoBeat)

    def test_no_hands(self):
        desk = self.desk(SETTING + ["gap 1"])
        self.refuses(desk, "beat ann off hat ann on sash bob on coat", NoHands)
        self.tell(desk, ["beat ann off hat ann on sash"])

    def test_not_let_by_alone(self):
        desk = self.desk(SETTING + ["wears ann coat", "gap 1"])
        self.refuses(desk, "beat ann on hat", Worn, garment=0)
        self.refuses(desk, "beat bob on coat", Worn, garment=1)
        self.refuses(desk, "beat bob off coat", NotWorn, garment=1)
        self.refuses(desk, "beat ann off sash", NotWorn, garment=2)
        self.refuses(desk, "beat ann off hat", Covered, garment=0, over=1)
        self.refuses(desk, "beat ann off coat ann off hat", Covered, garment=0, over=1)
        self.refuses(desk, "beat bob on sash bob off hat", NotWorn, garment=0)

    def test_crossed(self):
        desk = self.desk(SETTING[:-1] + ["dressers 6", "gap 1"])
        self.refuses(desk, "beat ann on coat ann off hat", Crossed, first=0, second=1)
        self.refuses(desk, "beat bob on sash ann on coat ann off hat", Crossed, first=1, second=2)
        self.refuses(desk, "beat bob on sash ann on sash", Crossed, first=0, second=1)
        self.refuses(desk, "beat ann off hat ann off hat", Crossed, first=0, second=1)
        self.refuses(desk, "beat ann off hat bob on coat ann on sash bob on sash", Crossed, first=1, second=3)

    def test_not_seen(self):
        desk = self.desk(PLAY)
        self.refuses(desk, "beat", NotSeen)
        self.refuses(desk, "beat ann on sash", NotSeen)
        self.refuses(desk, "beat ann on coat bob on sash", NotSeen)
        self.tell(desk, ["beat ann on coat"])
        self.refuses(desk, "beat", NotSeen)
        self.refuses(desk, "beat ann off coat", NotSeen)
        self.tell(desk, ["beat ann off coat bob on sash"])

    def test_one_of_several_scenes_is_not_seen(self):
        desk = self.desk(SETTING + ["gap 1", "scene", "bare ann head", "scene", "scene", "see bob body sash"])
        self.refuses(desk, "beat ann off hat", NotSeen)
        self.refuses(desk, "beat bob on sash", NotSeen)
        self.tell(desk, ["beat bob on sash ann off hat"])

    def test_scenes_of_other_moments_are_not_asked(self):
        desk = self.desk(SETTING + ["scene", "bare ann head", "gap 2", "scene", "bare ann head", "gap 1"])
        self.tell(desk, ["beat"])
        self.refuses(desk, "beat", NotSeen)
        self.tell(desk, ["beat ann off hat", "beat ann on hat"])

    def test_refused_in_turn(self):
        rows = SETTING + ["wears ann coat", "gap 1", "scene", "see bob body sash"]
        desk = self.desk(rows)
        number = len(rows) + 1
        self.refuses(desk, "beat ann off hat ann on hat bob on eve", NoName, row=number, name="eve")
        self.refuses(desk, "beat ann off hat ann on hat bob on coat", NoHands)
        self.refuses(desk, "beat ann off hat ann on hat", Covered, garment=0, over=1)
        self.refuses(desk, "beat ann on hat ann off hat", Worn, garment=0)
        self.refuses(desk, "beat ann off coat ann off coat", Crossed, first=0, second=1)
        self.refuses(desk, "beat ann off coat", NotSeen)
        self.tell(desk, ["beat ann off coat bob on sash"])
        self.refuses(desk, "beat ann off hat ann on hat bob on eve", NoName, row=number, name="eve")
        self.refuses(desk, "beat ann off hat ann on hat bob on coat", NoBeat)
        self.refuses(desk, "beat ann on hat", NoBeat)

    def test_a_row_let_in_behind_beats(self):
        for row in ("gap 1", "scene"):
            desk = self.desk(PLAY)
            self.tell(desk, ["beat ann on coat", row])
            self.answers(desk, moment="0", spent="0", now="ann: hat; bob:")
        # The wish that is let in belongs to the last scene.
        desk = self.desk(PLAY)
        self.tell(desk, ["beat ann on coat", "bare ann head"])
        self.answers(desk, moment="0", spent="0", now="ann: hat; bob:", left="none")

    def test_a_row_of_the_setting_starts_anew(self):
        desk = self.desk(SETTING)
        self.answers(desk, now="ann: hat; bob:")
        self.tell(desk, ["wears bob sash"])
        self.answers(desk, now="ann: hat; bob: sash")
        self.tell(desk, ["player cid", "wears cid coat", "dressers 0", "gap 1"])
        self.answers(desk, now="ann: hat; bob: sash; cid: coat")
        self.refuses(desk, "beat ann off hat", NoHands)

    def test_what_is_refused_changes_nothing(self):
        desk = self.desk(PLAY)
        self.tell(desk, ["beat ann on coat"])
        number = len(PLAY) + 1
        for row, error, fields in (
            ("place", NoRow, {"row": number}),
            ("again now", NoRow, {"row": number}),
            ("place leg", OutOfPlace, {"row": number}),
            ("bare ann leg", NoName, {"row": number, "name": "leg"}),
            ("stand ann hat hat", Twice, {"row": number, "name": "hat"}),
            ("gap 11", TooMuch, {"row": number}),
            ("beat eve on hat", NoName, {"row": number, "name": "eve"}),
            ("beat ann off coat ann off hat bob on sash", NoHands, {}),
            ("beat ann on hat", Worn, {"garment": 0}),
            ("beat ann off coat ann off coat", Crossed, {"first": 0, "second": 1}),
            ("beat ann off coat", NotSeen, {}),
            ("quickest eve", NoName, {"row": number, "name": "eve"}),
            ("quickest ann hat hat", Twice, {"row": number, "name": "hat"}),
        ):
            self.refuses(desk, row, error, **fields)
            self.answers(desk, now="ann: hat coat; bob:", moment="1", spent="3", left="9")
        self.tell(desk, ["beat ann off coat bob on sash"])
        self.refuses(desk, "beat", NoBeat)
        self.answers(desk, now="ann: hat; bob: sash", moment="2", spent="12", left="0")


class TooManyStandings(Telling):
    def test_at_moment_1(self):
        desk = self.desk(written_rows(named(one_above_at_1(2))))
        self.refuses(desk, "plan", TooMany, moment=1)
        self.refuses(desk, "left", TooMany, moment=1)
        self.answers(desk, moment="0", spent="0", now="q:; qa: gaaaa; qaa:")
        self.tell(desk, ["beat"])
        self.refuses(desk, "plan", TooMany, moment=2)
        self.refuses(desk, "left", TooMany, moment=2)
        self.tell(desk, ["beat qa off gaaaa"])
        self.answers(desk, plan="0", left="0", spent="1")

    def test_at_a_later_moment(self):
        desk = self.desk(written_rows(named(one_above_at_4(4))))
        self.refuses(desk, "plan", TooMany, moment=4)
        self.refuses(desk, "left", TooMany, moment=4)
        self.tell(desk, ["beat"])
        self.answers(desk, plan="0; -; -; -", left="0")

    def test_just_300(self):
        self.answers(self.desk(written_rows(named(just_300_at_4(4)))), plan="0; -; -; -; -", left="0")


class Plays(Telling):
    """Whole plays told to a desk."""

    def test_a_told_plan_is_rehearsed(self):
        rehearsed = 0
        books = drawn_books(71, 250, small_wardrobes(), 3, 4) + drawn_books(72, 100, larger_wardrobes(), 2, 4)
        for book in books:
            desk = self.desk(written_rows(named(book)))
            told = desk.say("plan")
            if told == "none":
                self.assertEqual({}, walked(book, 0, book.start)[-1][1])
                self.assertEqual(desk.say("left"), "none")
            else:
                trouble, *beats = told.split("; ")
                self.assertEqual(len(beats), book.beats)
                self.assertEqual(int(trouble), min(walked(book, 0, book.start)[-1][1].values()))
                self.rehearse(desk, int(trouble), beats)
                rehearsed += int(trouble) > 0
        self.assertGreater(rehearsed, 40)

    def rehearse(self, desk, trouble, beats):
        self.assert_comes_to(desk, trouble)
        for passed, beat in enumerate(beats):
            self.assertEqual(desk.say("moment"), str(passed))
            row = "beat" if beat == "-" else "beat " + beat.replace(",", "")
            self.tell(desk, [row])
            self.assert_comes_to(desk, trouble)
        self.answers(desk, moment=str(len(beats)), left="0", plan="0", spent=str(trouble))
        with self.assertRaises(NoBeat):
            desk.say("beat")
        self.tell(desk, ["again"])
        self.assert_comes_to(desk, trouble)

    def assert_comes_to(self, desk, trouble):
        self.assertEqual(int(desk.say("spent")) + int(desk.say("left")), trouble)

    def test_with_the_needed_dressers(self):
        for book in drawn_books(73, 60, small_wardrobes(), 2, 3):
            needed = needed_dressers(book)
            dressers = 6 if needed is None else needed
            helped = Book(book.wardrobe, book.prices, book.start, dressers, book.beats, book.scenes)
            self.assertIs(self.desk(written_rows(named(helped))).say("plan") == "none", needed is None)

    def test_whatever_is_rehearsed(self):
        found = {}
        draw = random.Random(74)
        books = drawn_books(75, 120, small_wardrobes()[1:], 3, 5) + drawn_books(76, 40, larger_wardrobes(), 2, 5)
        for book in books:
            prompt = named(book)
            desk = self.desk(written_rows(prompt))
            moment, standing, spent = 0, book.start, 0
            for step in range(12):
                beat = self.drawn_beat(draw, book, standing)
                told = self.fault(book, moment, standing, beat)
                row = " ".join(["beat"] + [f"{prompt.players[q]} {word} {prompt.garments[g]}" for q, word, g in beat])
                if told is None:
                    self.assertEqual(desk.say(row), "ok")
                    moment, standing = moment + 1, after_all(book.wardrobe, standing, beat)
                    spent += cost(book, [beat])
                else:
                    self.refuses_with(desk, row, *told)
                name = None if told is None else told[0]
                found[name] = found.get(name, 0) + 1
                self.assert_stands(desk, prompt, moment, standing, spent)
                if draw.randrange(12) == 0:
                    self.assertEqual(desk.say("again"), "ok")
                    moment, standing, spent = 0, book.start, 0
        for error in (None, NoBeat, NoHands, Worn, NotWorn, Crossed, Covered, NotSeen):
            self.assertGreater(found.get(error, 0), 10, error)

    def refuses_with(self, desk, row, error, fields):
        with self.assertRaises(error) as caught:
            desk.say(row)
        self.assertIs(caught.exception.__class__, error)
        self.assertEqual(vars(caught.exception), fields)

    def drawn_beat(self, draw, book, standing):
        """A beat that is let by, mostly with hands enough; now and then one with a deed more or of whatever deeds."""
        beats = all_beats(book.wardrobe, standing, book.dressers + draw.choice((0, 0, 0, 1)))
        beat = draw.choice(beats)
        draw.shuffle(beat)
        for number in range(draw.choice((0, 0, 0, 1, 1, 2))):
            deed = (draw.randrange(len(standing)), draw.choice(("on", "off")), draw.randrange(book.wardrobe.many()))
            beat.insert(draw.randint(0, len(beat)), deed)
        return beat

    def fault(self, book, moment, standing, beat):
        """What a beat is refused with, as a class and fields; or None."""
        if moment == book.beats:
            return NoBeat, {}
        if len(beat) > book.dressers:
            return NoHands, {}
        for player, word, garment in beat:
            if after(book.wardrobe, standing, (player, word, garment)) is None:
                return self.deed_fault(book, standing, player, word, garment)
        for first, second in combinations(range(len(beat)), 2):
            if not may_be_at_once(book.wardrobe, beat[first], beat[second]):
                return Crossed, {"first": first, "second": second}
        return None if shows_all(book, moment + 1, after_all(book.wardrobe, standing, beat)) else (NotSeen, {})

    def deed_fault(self, book, standing, player, word, garment):
        if word == "on":
            return Worn, {"garment": garment}
        rows = [row for row in standing[player] if garment in row]
        if rows == []:
            return NotWorn, {"garment": garment}
        over = [row[row.index(garment) + 1] for row in rows if row[-1] != garment]
        return Covered, {"garment": garment, "over": min(over)}

    def assert_stands(self, desk, prompt, moment, standing, spent):
        answer = plan_from(prompt.book, moment, standing)
        left = "none" if answer[0] == "none" else str(answer[1])
        self.answers(desk, moment=str(moment), spent=str(spent), left=left)
        told = [part.partition(":") for part in desk.say("now").split("; ")]
        self.assertEqual([name for name, colon, garments in told], prompt.players)
        orders = [[prompt.garments.index(name) for name in garments.split()] for name, colon, garments in told]
        self.assertEqual(tuple(modelled(prompt.book.wardrobe, order) for order in orders), standing)

    def test_quickest(self):
        for book in drawn_books(77, 60, small_wardrobes(), 2, 2):
            prompt = named(book)
            desk = self.desk(written_rows(prompt))
            for goal in all_standings(book.wardrobe, len(book.start)):
                if goal[1:] == book.start[1:]:
                    row = "quickest q" + self.order_text(desk, prompt, goal)
                    beats = quickest_change(book.wardrobe, book.start, goal)[0]
                    self.assertEqual(desk.say(row), str(len(beats)))

    def order_text(self, desk, prompt, goal):
        """The names of what the first player wears, each behind a blank."""
        rows = list(goal[0])
        text = ""
        while any(rows):
            garment = next(
                garment for garment in range(prompt.book.wardrobe.many())
                if all(rows[place][:1] == (garment,) for place in prompt.book.wardrobe.covers(garment))
            )
            rows = [row[1:] if row[:1] == (garment,) else row for row in rows]
            text += " " + prompt.garments[garment]
        return text

    def test_drawn_rows_are_refused_as_reading_refuses_them(self):
        for rows, refused in drawn_prompts(78, 80):
            desk = Desk()
            for number, row in enumerate(rows):
                for many, other in refused:
                    if many == number:
                        self.refuses_with(desk, other, *fault(rows[:many], other))
                self.assertEqual(desk.say(row), "ok")
            kept = read_prompt(rows)
            now = desk.say("now")
            self.assertEqual(now.count(":"), len(kept.players))
            self.assertEqual(desk.say("moment") + desk.say("spent"), "00")


if __name__ == "__main__":
    unittest.main()
