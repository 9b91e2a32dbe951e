"""Point 27, what it says of a prompt itself."""

import unittest

from helping import BARE, SHIRT, frozen, spoil, tiny
from quickchange.books import Book
from quickchange.prompts import Prompt
from quickchange.wardrobe import Wardrobe


def handed():
    """What a prompt is made of, made anew."""
    return [["breast", "leg"], ["shirt", "coat"], ["ann", "bob"], tiny((BARE, SHIRT), 2, 3, (1, [("bare", 0, 0)]))]


class Prompts(unittest.TestCase):
    def test_fields(self):
        places, garments, players, book = handed()
        prompt = Prompt(places, garments, players, book)
        self.assertEqual(prompt.places, ["breast", "leg"])
        self.assertEqual(prompt.garments, ["shirt", "coat"])
        self.assertEqual(prompt.players, ["ann", "bob"])
        self.assertIs(prompt.book, book)

    def test_by_argument_names(self):
        places, garments, players, book = handed()
        prompt = Prompt(places=places, garments=garments, players=players, book=book)
        self.assertEqual((prompt.places, prompt.garments, prompt.players), (places, garments, players))
        self.assertIs(prompt.book, book)

    def test_the_least_prompt(self):
        book = Book(Wardrobe(1, []), [], (((),),), 0, 0, [])
        prompt = Prompt(["a"], [], ["b"], book)
        self.assertEqual((prompt.places, prompt.garments, prompt.players), (["a"], [], ["b"]))

    def test_what_is_handed_in_stays(self):
        things = handed()
        Prompt(*things)
        self.assertEqual(frozen(things), frozen(handed()))

    def test_its_lists_of_names_are_its_own(self):
        things = handed()
        prompt = Prompt(*things)
        spoil(things[:3])
        self.assertEqual(frozen(prompt), frozen(Prompt(*handed())))

    def test_what_is_done_to_its_lists_changes_nothing_else(self):
        things = handed()
        prompt, other = Prompt(*things), Prompt(*things)
        spoil([prompt.places, prompt.garments, prompt.players])
        self.assertEqual(frozen(things), frozen(handed()))
        self.assertEqual(frozen(other), frozen(Prompt(*handed())))

    def test_one_list_for_two_kinds_of_names(self):
        names = ["a", "b"]
        prompt = Prompt(names, names, names, handed()[3])
        prompt.places.append("c")
        self.assertEqual((prompt.garments, prompt.players), (["a", "b"], ["a", "b"]))

    def test_two_prompts_of_one_book(self):
        places, garments, players, book = handed()
        self.assertIs(Prompt(places, garments, players, book).book, Prompt(players, garments, places, book).book)


if __name__ == "__main__":
    unittest.main()
