"""Point 25: the forms of rows, and NoRow for all that has none of them."""

import unittest

from helping import DESK_FORMS, FORMS, WISH_WORDS, Asking, is_formed
from quickchange.desk import Desk
from quickchange.errors import NoRow, WardrobeError
from quickchange.texts import read_prompt

SETTING = [
    "place head", "place body", "garment hat 1 2 head", "garment coat 3 4 body head", "player ann", "player bob",
    "outfit full hat coat",
]

GOOD = [
    "place a", "place abcdefgh", "player z", "player zyxwvuts",
    "garment a 0 0 head", "garment abcdefgh 1000000 1000000 body head", "garment a 999999 10 body",
    "garment a 9 1 head",
    "outfit a hat", "outfit abcdefgh coat hat", "outfit a full",
    "wears ann hat", "wears bob coat hat", "wears ann full",
    "dressers 0", "dressers 1", "dressers 5", "dressers 6",
    "gap 0", "gap 1", "gap 9", "gap 10", "gap 12", "scene",
    "see ann head hat", "see bob body coat", "bare ann head", "bare bob body",
    "stand ann", "stand bob coat", "stand ann coat hat", "stand bob full",
    # Names that are words of the language too.
    "place place", "player scene", "garment gap 1 1 head", "outfit see hat", "place on", "player beat",
    "place dressers",
]

BAD = [
    "", " ", "  ", "-", "places", "plac", "Place a", "PLACE a", "hat", "ann", "0", "on", "off",
    # Rows that the desk alone is told.
    "plan", "left", "spent", "moment", "now", "again", "beat", "beat ann on hat", "quickest ann", "quickest ann hat",
    "place", "place ", " place a", "place a ", "place  a", "place a b", "place A", "place aB", "place abcdefghi",
    "place a1", "place 1", "place a-b", "place a_b", "place .", "place a,", "place\ta", "place a\n", "place a\tb",
    "player", "player ", " player a", "player a ", "player  a", "player a b", "player A", "player abcdefghi",
    "player 0",
    "garment", "garment a", "garment a 0", "garment a 0 0", "garment a 0 0 ", "garment a 0 0  head",
    "garment a 0 0 head ", " garment a 0 0 head", "garment  a 0 0 head", "garment a  0 0 head", "garment a 0  0 head",
    "garment a 0 head", "garment a head", "garment a 0 0 Head", "garment A 0 0 head", "garment abcdefghi 0 0 head",
    "garment a 0 0 headheads", "garment a 0 0 head 0", "garment a 00 0 head", "garment a 0 00 head",
    "garment a 01 0 head", "garment a 0 01 head", "garment a +1 0 head", "garment a -1 0 head", "garment a 0 -0 head",
    "garment a 0 +0 head", "garment a 1000001 0 head", "garment a 0 1000001 head", "garment a 1000010 0 head",
    "garment a 2000000 0 head", "garment a 10000000 0 head", "garment a 0 9999999 head", "garment a 0.0 0 head",
    "garment a 1_0 0 head", "garment a x 0 head", "garment a 0 x head", "garment a 0 0 0 head", "garment 0 0 head",
    "garment a 01000000 0 head", "garment a 1e3 0 head", "garment a " + "1" * 5000 + " 0 head",
    "outfit", "outfit a", "outfit a ", "outfit a  hat", "outfit a hat ", " outfit a hat", "outfit  a hat",
    "outfit A hat", "outfit a Hat", "outfit a hat 1", "outfit abcdefghi hat", "outfit a abcdefghi", "outfit 1 hat",
    "wears", "wears ann", "wears ann ", "wears ann  hat", "wears ann hat ", " wears ann hat", "wears  ann hat",
    "wears Ann hat", "wears ann Hat", "wears ann hat 1", "wears annannann hat", "wears ann abcdefghi",
    "dressers", "dressers ", "dressers 7", "dressers 10", "dressers 00", "dressers 01", "dressers 06", "dressers -1",
    "dressers +1", "dressers 1 1", "dressers a", "dressers 1 ", " dressers 1", "dressers  1", "dressers 1.0",
    "dressers -0", "dressers " + "9" * 5000,
    "gap", "gap ", "gap 13", "gap 20", "gap 99", "gap 100", "gap 00", "gap 01", "gap 012", "gap -1", "gap +1",
    "gap 1 1", "gap a", "gap 1 ", " gap 1", "gap  1", "gap 1.5", "gap " + "0" * 5000,
    "scene ", " scene", "scene a", "scene 1", "Scene", "scenes", "scene  ", "scene\n",
    "see", "see ann", "see ann head", "see ann head ", "see ann head hat ", "see ann head hat hat", "see  ann head hat",
    "see ann  head hat", " see ann head hat", "see Ann head hat", "see ann Head hat", "see ann head Hat",
    "see ann head abcdefghi", "see ann head 1", "see 0 0 0",
    "bare", "bare ann", "bare ann ", "bare ann head ", "bare ann head hat", "bare  ann head", "bare ann  head",
    " bare ann head", "bare Ann head", "bare ann Head", "bare ann abcdefghi", "bare ann 1",
    "stand", "stand ", "stand ann ", " stand ann", "stand  ann", "stand ann  hat", "stand ann hat ", "stand Ann",
    "stand ann Hat", "stand abcdefghi", "stand ann abcdefghi", "stand 1", "stand ann 1",
]

DESK_GOOD = [
    "plan", "left", "spent", "moment", "now", "again", "beat", "beat ann on hat", "beat ann off hat bob on coat",
    "beat on off off", "quickest ann", "quickest bob coat", "quickest ann full", "quickest abcdefgh abcdefgh",
]

DESK_BAD = [
    "Plan", "plan ", " plan", "plan a", "plan 0", "plans", "left ", " left", "left ann", "left 1", "spent ", "spent a",
    "spent 0", "moment ", "moment a", "moment 0", "now ", " now", "now ann", "again ", "again a", " again", "Again",
    "beat ", " beat", "beat a", "beat ann on", "beat ann hat", "beat ann  on hat", "beat ann on hat ",
    "beat  ann on hat",
    "beat ann up hat", "beat ann On hat", "beat ann ON hat", "beat ann no hat", "beat ann on hat bob",
    "beat ann on hat bob on", "beat Ann on hat", "beat ann on Hat", "beat ann on hat bob of coat", "beat 0 on 0",
    "beat ann on hat, bob on coat", "beat ann on abcdefghi", "beat abcdefghi on hat", "beat -", "beat ann on hat on",
    "quickest", "quickest ", "quickest ann ", "quickest  ann", " quickest ann", "quickest Ann", "quickest ann Hat",
    "quickest ann hat ", "quickest ann  hat", "quickest abcdefghi", "quickest ann abcdefghi", "quickest ann 1",
]


def ahead_of(row):
    """Rows behind which a row, by its first word, is in place."""
    return SETTING + ["scene"] if row.split(" ")[0] in WISH_WORDS else SETTING


def near(row):
    """Every row that comes of this one by one sign more, less or other."""
    signs = " aA0197-+~.,;:_\n\t"
    for place in range(len(row) + 1):
        for sign in signs:
            yield row[:place] + sign + row[place:]
            if place < len(row):
                yield row[:place] + sign + row[place + 1:]
        if place < len(row):
            yield row[:place] + row[place + 1:]


def refusal(ask, *handed):
    """The class by which asking is refused, or None."""
    try:
        ask(*handed)
    except WardrobeError as error:
        return error.__class__
    return None


class Rows(Asking):
    def test_rows_of_each_form(self):
        for row in GOOD:
            self.told(read_prompt, ahead_of(row) + [row])

    def test_rows_of_none(self):
        for row in BAD:
            self.refused(NoRow, read_prompt, [row], row=1)

    def test_rows_of_none_among_good_ones(self):
        for row in BAD:
            for ahead in (SETTING, SETTING + ["scene"], SETTING + ["gap 1"], SETTING[:1]):
                self.refused(NoRow, read_prompt, ahead + [row], row=len(ahead) + 1)
                self.refused(NoRow, read_prompt, ahead + [row, "scene", "gap 1"], row=len(ahead) + 1)

    def test_the_first_of_two(self):
        self.refused(NoRow, read_prompt, SETTING[:2] + ["scenes", "gaps"], row=3)

    def test_what_the_tests_hold_for_good_and_bad(self):
        for row in GOOD:
            self.assertTrue(is_formed(row, FORMS), row)
        for row in BAD:
            self.assertFalse(is_formed(row, FORMS), row)
        for row in DESK_GOOD:
            self.assertTrue(is_formed(row, DESK_FORMS), row)
        for row in DESK_BAD:
            self.assertFalse(is_formed(row, DESK_FORMS), row)

    def test_every_row_near_a_good_one(self):
        for good in GOOD:
            for row in near(good):
                is_refused = refusal(read_prompt, ahead_of(row) + [row]) is NoRow
                self.assertIs(is_refused, not is_formed(row, FORMS), row)

    def test_every_price(self):
        for price in list(range(1200)) + [99999, 100000, 999998, 999999, 1000000]:
            book = read_prompt(SETTING + [f"garment a {price} 5 head", f"garment b 5 {price} head"]).book
            self.assertEqual(book.prices[2:], [(price, 5), (5, price)])

    def test_every_number_of_dressers_and_beats(self):
        for number in range(7):
            self.assertEqual(read_prompt(SETTING + [f"dressers {number}"]).book.dressers, number)
        for number in range(13):
            self.assertEqual(read_prompt(SETTING + [f"gap {number}"]).book.beats, number)


class DeskRows(unittest.TestCase):
    def desk(self, rows):
        desk = Desk()
        for row in rows:
            self.assertEqual(desk.say(row), "ok")
        return desk

    def assert_no_row(self, kept, row):
        desk = self.desk(kept)
        with self.assertRaises(NoRow) as caught:
            desk.say(row)
        self.assertEqual(caught.exception.row, len(kept) + 1, row)

    def test_rows_of_none(self):
        for row in DESK_BAD + [row for row in BAD if not is_formed(row, DESK_FORMS)]:
            for kept in ([], SETTING[:1], SETTING, SETTING + ["gap 3", "scene"]):
                self.assert_no_row(kept, row)

    def test_rows_of_each_form(self):
        for row in DESK_GOOD:
            for kept in ([], SETTING, SETTING + ["gap 3", "scene"]):
                self.assertIsNot(refusal(self.desk(kept).say, row), NoRow, row)

    def test_every_row_near_a_good_one(self):
        for good in GOOD + DESK_GOOD:
            for row in near(good):
                is_refused = refusal(self.desk(ahead_of(row)).say, row) is NoRow
                self.assertIs(is_refused, not is_formed(row, FORMS + DESK_FORMS), row)


if __name__ == "__main__":
    unittest.main()
