"""The forms of rows: how many words stand behind the first one, and of which kind each of them is."""

from quickchange.errors import NoRow
from quickchange.standing import WORDS

LETTERS = "abcdefghijklmnopqrstuvwxyz"
FIGURES = "0123456789"
LONGEST_NAME = 8

# The kinds of words that are numbers, with the greatest one.
NUMBERS = {"price": 1000000, "dressers": 6, "beats": 12}

# For each first word the part that its rows belong to (the setting, the passing of time and the wishes of a prompt,
# or what the desk alone is told), the kinds of the words that follow, and of those that may follow again and again.
FORMS = {
    "place": ("setting", ("new",), ()),
    "player": ("setting", ("new",), ()),
    "garment": ("setting", ("new", "price", "price", "place"), ("place",)),
    "outfit": ("setting", ("new", "piece"), ("piece",)),
    "wears": ("setting", ("player", "piece"), ("piece",)),
    "dressers": ("setting", ("dressers",), ()),
    "gap": ("time", ("beats",), ()),
    "scene": ("time", (), ()),
    "see": ("wish", ("player", "place", "garment"), ()),
    "bare": ("wish", ("player", "place"), ()),
    "stand": ("wish", ("player",), ("piece",)),
    "plan": ("desk", (), ()),
    "left": ("desk", (), ()),
    "spent": ("desk", (), ()),
    "moment": ("desk", (), ()),
    "beat": ("desk", (), ("player", "deed", "garment")),
    "now": ("desk", (), ()),
    "quickest": ("desk", ("player",), ("piece",)),
    "again": ("desk", (), ()),
}


def is_name(word):
    """True where the word is one to eight small letters."""
    return 1 <= len(word) <= LONGEST_NAME and all([sign in LETTERS for sign in word])


def is_number(word, most):
    """True where the word is a number up to the greatest one, without a nought ahead."""
    # Of a word that is longer than the greatest number nothing more is asked: Python may not read it at all.
    if not 1 <= len(word) <= len(str(most)) or not all([sign in FIGURES for sign in word]):
        return False
    return word == str(int(word)) and int(word) <= most


def is_fit(word, kind):
    """True where the word is written as one of this kind."""
    if kind in NUMBERS:
        return is_number(word, NUMBERS[kind])
    if kind == "deed":
        return word in WORDS
    return is_name(word)


def words_of(row):
    """The words of a row, parted by one blank each; where more stand, some of them are empty."""
    return row.split(" ")


def part_of(word):
    """The part that rows with this first word belong to; None where there are no such rows."""
    return FORMS[word][0] if word in FORMS else None


def is_of_prompt(word):
    """True where rows with this first word are rows of a prompt."""
    return part_of(word) in ("setting", "time", "wish")


def kinds_of(words):
    """The kinds of the words behind the first one; as many as there would have to be."""
    form = FORMS[words[0]]
    kinds = list(form[1])
    while len(form[2]) > 0 and len(kinds) < len(words) - 1:
        kinds.extend(form[2])
    return kinds


def check_form(words, number):
    """Refuses with NoRow words that have none of the forms; the number is the row's."""
    if words[0] not in FORMS:
        raise NoRow(number)
    kinds = kinds_of(words)
    if len(kinds) != len(words) - 1 or not all([is_fit(word, kind) for word, kind in zip(words[1:], kinds)]):
        raise NoRow(number)
