"""Reading rows: what the rows so far have told, and what one row more tells or is refused for."""

from quickchange.books import MOST_BEATS, Book
from quickchange.errors import NoName, NoRow, OutOfPlace, TooMuch, Twice
from quickchange.forms import check_form, is_of_prompt, kinds_of, part_of, words_of
from quickchange.wardrobe import MOST_GARMENTS, MOST_PLACES, Wardrobe
from quickchange.wearing import dressed

MOST_PLAYERS = 3
MOST_SCENES = 6
MOST_WISHES = 12

# The kinds of words that are names.
NAMES = ("new", "place", "garment", "player", "piece")


class Reading:
    """What the rows so far have told."""

    def __init__(self):
        self.next_row = 1
        # For each name its kind and, of a place, garment or player its number, of an outfit its garments.
        self.names = {}
        self.places = []
        self.garments = []
        self.players = []
        self.garment_places = []
        self.prices = []
        self.orders = []
        self.dressers = 1
        self.beats = 0
        self.scenes = []
        self.has_begun = False
        self.takes_wishes = False

    def is_of_kind(self, name, kind):
        """True where the name stands for one of this kind; a new one stands for nothing yet."""
        if name not in self.names:
            return kind == "new"
        told = self.names[name][0]
        return told == kind or (kind == "piece" and told in ("garment", "outfit"))

    def number_of(self, name):
        """The number of a place, garment or player."""
        return self.names[name][1]

    def written_out(self, pieces):
        """The garments of a list of names, each outfit standing for its own."""
        order = []
        for name in pieces:
            if self.names[name][0] == "outfit":
                order.extend(self.names[name][1])
            else:
                order.append(self.number_of(name))
        return order

    def garment_names(self, order):
        """The names of the garments of an order."""
        return [self.garments[garment] for garment in order]

    def worn_names(self):
        """The names of the garments that players wear at the start."""
        worn = []
        for order in self.orders:
            worn.extend(self.garment_names(order))
        return worn

    def is_complete(self):
        """True where there is a place and a player, so that there is a book."""
        return len(self.places) > 0 and len(self.players) > 0


def check_place(reading, word):
    """Refuses with OutOfPlace a row, known by its first word, that may not stand behind the rows so far."""
    if part_of(word) == "setting" and reading.has_begun:
        raise OutOfPlace(reading.next_row)
    if part_of(word) == "wish" and not reading.takes_wishes:
        raise OutOfPlace(reading.next_row)


def check_names(reading, words):
    """Refuses with NoName the first name that isn't of its kind."""
    for name, kind in zip(words[1:], kinds_of(words)):
        if kind in NAMES and not reading.is_of_kind(name, kind):
            raise NoName(reading.next_row, name)


def check_twice(reading, names, taken):
    """Refuses with Twice the first name that stands ahead of itself, too, or is taken already."""
    for place, name in enumerate(names):
        if name in names[:place] or name in taken:
            raise Twice(reading.next_row, name)


def check_list(reading, words):
    """Refuses with Twice what stands twice in the list of a row, or what wears puts on and is worn."""
    word = words[0]
    if word == "garment":
        check_twice(reading, words[4:], [])
    if word in ("outfit", "wears", "stand"):
        taken = reading.worn_names() if word == "wears" else []
        check_twice(reading, reading.garment_names(reading.written_out(words[2:])), taken)


def is_too_much(reading, words):
    """True where the row would bring more of something than there may be."""
    word = words[0]
    if word == "place":
        return len(reading.places) == MOST_PLACES
    if word == "garment":
        return len(reading.garments) == MOST_GARMENTS
    if word == "player":
        return len(reading.players) == MOST_PLAYERS
    if word == "scene":
        return len(reading.scenes) == MOST_SCENES
    if word == "gap":
        return reading.beats + int(words[1]) > MOST_BEATS
    return part_of(word) == "wish" and len(reading.scenes[-1][1]) == MOST_WISHES


def enter_new(reading, words):
    """Enters the row of a new place, garment, player or outfit."""
    word = words[0]
    name = words[1]
    if word == "place":
        reading.names[name] = (word, len(reading.places))
        reading.places.append(name)
    elif word == "garment":
        reading.names[name] = (word, len(reading.garments))
        reading.garments.append(name)
        reading.prices.append((int(words[2]), int(words[3])))
        reading.garment_places.append(sorted([reading.number_of(place) for place in words[4:]]))
    elif word == "player":
        reading.names[name] = (word, len(reading.players))
        reading.players.append(name)
        reading.orders.append([])
    else:
        reading.names[name] = (word, reading.written_out(words[2:]))


def enter_wish(reading, words):
    """Enters a wish of the scene told last."""
    player = reading.number_of(words[1])
    if words[0] == "stand":
        wish = ("stand", player, reading.written_out(words[2:]))
    else:
        wish = (words[0], player) + tuple([reading.number_of(name) for name in words[2:]])
    reading.scenes[-1][1].append(wish)


def enter(reading, words):
    """Enters what a row tells that is refused for nothing."""
    word = words[0]
    if part_of(word) == "wish":
        enter_wish(reading, words)
    elif word == "scene":
        reading.scenes.append((reading.beats, []))
        reading.has_begun = True
        reading.takes_wishes = True
    elif word == "gap":
        reading.beats = reading.beats + int(words[1])
        reading.has_begun = True
        reading.takes_wishes = False
    elif word == "dressers":
        reading.dressers = int(words[1])
    elif word == "wears":
        reading.orders[reading.number_of(words[1])].extend(reading.written_out(words[2:]))
    else:
        enter_new(reading, words)


def let_in(reading, row):
    """Lets in one row more; one that is refused changes nothing."""
    words = words_of(row)
    if not is_of_prompt(words[0]):
        raise NoRow(reading.next_row)
    check_form(words, reading.next_row)
    check_place(reading, words[0])
    check_names(reading, words)
    check_list(reading, words)
    if is_too_much(reading, words):
        raise TooMuch(reading.next_row)
    enter(reading, words)
    reading.next_row = reading.next_row + 1


def check_complete(reading):
    """Refuses with OutOfPlace rows that end without a place or without a player."""
    if not reading.is_complete():
        raise OutOfPlace(reading.next_row)


def book_of(reading):
    """The book that the rows tell."""
    wardrobe = Wardrobe(len(reading.places), reading.garment_places)
    start = tuple([dressed(wardrobe, order) for order in reading.orders])
    return Book(wardrobe, reading.prices, start, reading.dressers, reading.beats, reading.scenes)
