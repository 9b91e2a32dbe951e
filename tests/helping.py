"""What several tests use: small worlds walked whole, told by the document's words and not by the program's."""

import copy
import random
import re
import unittest
from itertools import combinations, permutations, product

from quickchange.books import Book
from quickchange.errors import NoName, NoRow, OutOfPlace, TooMuch, Twice
from quickchange.prompts import Prompt
from quickchange.wardrobe import Wardrobe

# 0 shirt, 1 trousers, 2 coat over both, 3 scarf, 4 shoes, 5 gown over all but the head.
COVERS = [[1], [2], [1, 2], [0, 1], [3], [1, 2, 3]]

# Six places and six garments; 2 meets all, 4 and 5 meet no other but 2.
WIDE = [[0], [0, 5], [0, 1, 2, 3, 4, 5], [5], [1, 3], [2, 4]]

# Each is no garment of a wardrobe of six, and no player.
NO_NUMBERS = (-1, 6, 7, 10 ** 6000, True, False, None, "0", "", [], [0], (0,), 0.0, {})

# A shirt at the first place, and a coat over both.
TINY = Wardrobe(2, [[0], [0, 1]])
TINY_PRICES = [(1, 2), (4, 8)]
BARE = ((), ())
SHIRT = ((0,), ())
COAT = ((1,), (1,))
SHIRT_COAT = ((0, 1), (1,))
COAT_SHIRT = ((1, 0), (1,))

# The forms of a prompt's rows, and of those that a desk alone is told.
NAME = "[a-z]{1,8}"
PRICE = "(0|[1-9][0-9]{0,5}|1000000)"
FORMS = [
    f"place {NAME}", f"player {NAME}", f"garment {NAME} {PRICE} {PRICE}( {NAME})+", f"outfit {NAME}( {NAME})+",
    f"wears {NAME}( {NAME})+", "dressers [0-6]", "gap ([0-9]|1[0-2])", "scene", f"see {NAME} {NAME} {NAME}",
    f"bare {NAME} {NAME}", f"stand {NAME}( {NAME})*",
]
DESK_FORMS = [
    "plan", "left", "spent", "moment", "now", "again", f"beat( {NAME} (on|off) {NAME})*", f"quickest {NAME}( {NAME})*",
]

# For each word of a row, behind the first one, what is asked there: a new name, a place, a garment, a player, a garment
# or outfit (x), or none of these; the last one is asked of all further words.
ASKED = {
    "place": "n", "player": "n", "garment": "n--p", "outfit": "nx", "wears": "qx", "dressers": "-", "gap": "-",
    "scene": "", "see": "qpg", "bare": "qp", "stand": "qx",
}
KINDS = {"n": [], "p": ["place"], "g": ["garment"], "q": ["player"], "x": ["garment", "outfit"]}
WISH_WORDS = ("see", "bare", "stand")

# The fields of the objects that are looked into.
FIELDS = {
    Book: ("wardrobe", "prices", "start", "dressers", "beats", "scenes"),
    Prompt: ("places", "garments", "players", "book"),
}


def house():
    return Wardrobe(4, COVERS)


def wide():
    return Wardrobe(6, WIDE)


def dressed_house(*orders):
    """The standing of these orders in the house, a player each."""
    return tuple(modelled(house(), order) for order in orders)


def dressed_wide(*orders):
    """The standing of these orders in the wide wardrobe, a player each."""
    return tuple(modelled(wide(), order) for order in orders)


def small_wardrobes():
    """Wardrobes small enough that all their orders, rows and standings can be walked."""
    return [
        Wardrobe(1, []),
        Wardrobe(6, [[2, 4]]),
        Wardrobe(1, [[0], [0], [0]]),
        Wardrobe(3, [[0], [1], [2]]),
        Wardrobe(2, [[0], [0, 1], [1]]),
        Wardrobe(3, [[0, 1], [1, 2], [0, 2]]),
        Wardrobe(3, [[1, 2], [0], [0, 1, 2]]),
    ]


def larger_wardrobes():
    """Wardrobes of four garments."""
    return [
        Wardrobe(3, [[0, 1], [1, 2], [0, 2], [1]]),
        Wardrobe(2, [[0], [0, 1], [1], [0, 1]]),
        Wardrobe(4, [[0, 1], [1, 2], [2, 3], [0, 3]]),
        Wardrobe(2, [[0], [0], [1], [1]]),
    ]


def all_wardrobes(places, garments):
    """Every wardrobe of so many places and garments."""
    lists = [list(some) for count in range(1, places + 1) for some in combinations(range(places), count)]
    return [Wardrobe(places, list(covers)) for covers in product(lists, repeat=garments)]


def modelled(wardrobe, order):
    """The wearing of an order, told place by place."""
    return tuple(
        tuple(garment for garment in order if place in wardrobe.covers(garment))
        for place in range(wardrobe.spots())
    )


def all_orders(wardrobe):
    """Every order of some of the garments."""
    return [
        order for count in range(wardrobe.many() + 1) for order in permutations(range(wardrobe.many()), count)
    ]


def all_wearings(wardrobe):
    """Every wearing that comes of bare, with an order whose wearing it is."""
    return {modelled(wardrobe, order): order for order in all_orders(wardrobe)}


def all_standings(wardrobe, players):
    """Every standing of so many players, sorted."""
    found = set()
    for worn_by in product(range(players + 1), repeat=wardrobe.many()):
        choices = []
        for player in range(players):
            garments = [garment for garment, wearer in enumerate(worn_by) if wearer == player]
            choices.append({modelled(wardrobe, order) for order in permutations(garments)})
        found.update(product(*choices))
    return sorted(found)


def every_standing():
    """Each standing of one to three players in the small wardrobes, with its wardrobe."""
    for wardrobe in small_wardrobes():
        for players in (1, 2, 3):
            for standing in all_standings(wardrobe, players):
                yield wardrobe, standing


def worlds():
    """Wardrobes, each with all standings of so many players, few enough that all pairs of them can be walked."""
    for wardrobe in small_wardrobes():
        for players in (1, 2):
            yield wardrobe, all_standings(wardrobe, players)
    yield Wardrobe(2, [[0], [0, 1]]), all_standings(Wardrobe(2, [[0], [0, 1]]), 3)
    for wardrobe in larger_wardrobes():
        yield wardrobe, all_standings(wardrobe, 1)


def all_deeds(wardrobe, players):
    """Every deed of so many players with the wardrobe's garments, sorted."""
    return [
        (player, word, garment)
        for player in range(players) for word in ("off", "on") for garment in range(wardrobe.many())
    ]


def is_worn(standing, garment):
    """True where any player wears it."""
    return any(garment in row for wearing in standing for row in wearing)


def after(wardrobe, standing, deed):
    """The standing behind a deed, or None where it isn't let by."""
    player, word, garment = deed
    rows = list(standing[player])
    for place in wardrobe.covers(garment):
        if word == "on":
            if is_worn(standing, garment):
                return None
            rows[place] = rows[place] + (garment,)
        else:
            if rows[place][-1:] != (garment,):
                return None
            rows[place] = rows[place][:-1]
    return standing[:player] + (tuple(rows),) + standing[player + 1:]


def after_all(wardrobe, standing, deeds):
    """The standing behind deeds done one behind the other, or None where one isn't let by."""
    for deed in deeds:
        standing = after(wardrobe, standing, deed)
        if standing is None:
            return None
    return standing


def after_beats(wardrobe, standing, beats):
    """The standing behind a row of beats, each of which is let by."""
    return after_all(wardrobe, standing, [deed for beat in beats for deed in beat])


def may_be_at_once(wardrobe, one, other):
    """True where two deeds that are each let by may be done at once."""
    common = set(wardrobe.covers(one[2])) & set(wardrobe.covers(other[2]))
    return one[2] != other[2] and not (one[0] == other[0] and common)


def all_beats(wardrobe, standing, most):
    """Every beat of at most so many deeds that is let by, each a sorted list, sorted."""
    alone = [deed for deed in all_deeds(wardrobe, len(standing)) if after(wardrobe, standing, deed) is not None]
    return sorted(
        list(some)
        for count in range(min(most, len(alone), wardrobe.many()) + 1)
        for some in combinations(alone, count)
        if all(may_be_at_once(wardrobe, one, other) for one, other in combinations(some, 2))
    )


def turned(one, other):
    """The pairs of garments, in the order that they have in the first, that stand the other way round in the other."""
    return [(a, b) for a, b in combinations(one, 2) if other.index(a) > other.index(b)]


def holds(book, standing, wish):
    """True where a wish holds in a standing."""
    rows = standing[wish[1]]
    if wish[0] == "stand":
        return rows == modelled(book.wardrobe, wish[2])
    return rows[wish[2]][-1:] == wish[3:4]


def shows_all(book, moment, standing):
    """True where all scenes of the moment are seen in the standing."""
    return all(
        holds(book, standing, wish) for when, wishes in book.scenes if when == moment for wish in wishes
    )


def cost(book, beats):
    """The trouble of a row of beats."""
    return sum(book.prices[garment][("on", "off").index(word)] for beat in beats for player, word, garment in beat)


def fitting_rows(book, moment, standing):
    """Every row of beats that goes with the book from there, its beats sorted."""
    if shows_all(book, moment, standing):
        if moment == book.beats:
            yield []
        else:
            for beat in all_beats(book.wardrobe, standing, book.dressers):
                for rest in fitting_rows(book, moment + 1, after_all(book.wardrobe, standing, beat)):
                    yield [beat] + rest


def walked(book, moment, standing):
    """For each moment from there on the standings that can be come to: before its scenes are looked at, and behind.

    Each is a dict of the least trouble; all beats of all standings are walked.
    """
    before = {standing: 0}
    pairs = []
    steps = {}
    while True:
        behind = {reached: spent for reached, spent in before.items() if shows_all(book, moment, reached)}
        pairs.append((before, behind))
        if moment == book.beats:
            return pairs
        moment += 1
        before = {}
        for reached, spent in behind.items():
            if reached not in steps:
                steps[reached] = [
                    (after_all(book.wardrobe, reached, beat), cost(book, [beat]))
                    for beat in all_beats(book.wardrobe, reached, book.dressers)
                ]
            for goal, trouble in steps[reached]:
                before[goal] = min(spent + trouble, before.get(goal, spent + trouble))


def tiny(start, dressers, beats, *scenes):
    return Book(TINY, TINY_PRICES, start, dressers, beats, list(scenes))


def counted(covers, places, orders, dressers, beats, scenes=()):
    """A book in which each deed costs 1, from the standing of these orders."""
    wardrobe = Wardrobe(places, covers)
    start = tuple(modelled(wardrobe, order) for order in orders)
    return Book(wardrobe, [(1, 1)] * len(covers), start, dressers, beats, list(scenes))


def just_300_at_1(beats, *scenes):
    covers = [[3], [1, 2, 3], [5], [0, 1, 3], [2, 3], [0, 5]]
    return counted(covers, 6, [[1], [], []], 3, beats, scenes)


def one_above_at_1(beats, *scenes):
    return counted([[0, 3], [2], [3], [1], [1, 2]], 5, [[], [4], []], 4, beats, scenes)


def just_300_at_4(beats, *scenes):
    return counted([[0], [0], [1], [0, 1], [0, 2], [1, 2]], 3, [[]], 1, beats, scenes)


def one_above_at_4(beats, *scenes):
    return counted([[0]] * 6, 1, [[1, 0, 2, 5], [4, 3]], 2, beats, scenes)


def drawn_wish(draw, wardrobe, standing):
    """A wish that holds in the standing; now and then one that asks for whatever garment."""
    covered = [place for garment in range(wardrobe.many()) for place in wardrobe.covers(garment)]
    player, place = draw.randrange(len(standing)), draw.choice(covered + [wardrobe.spots() - 1])
    if draw.randrange(3) == 0:
        return ("stand", player, list(all_wearings(wardrobe)[standing[player]]))
    row = standing[player][place]
    if draw.randrange(12) == 0 and wardrobe.many() > 0:
        row = (draw.randrange(wardrobe.many()),)
    return ("see", player, place, row[-1]) if row else ("bare", player, place)


def drawn_book(draw, wardrobe, players, beats):
    """A book of so many players and beats, with a start, dressers and scenes as they are drawn."""
    standings = all_standings(wardrobe, players)
    scenes = []
    # Seldom at moment 0, where most starts don't show a scene and nothing is left to be planned.
    moments = [draw.choice(list(range(beats + 1)) + [beats] * 3) for number in range(draw.choice((0, 1, 1, 2, 3)))]
    for moment in sorted(moments):
        goal = draw.choice(standings)
        scenes.append((moment, [drawn_wish(draw, wardrobe, goal) for number in range(draw.choice((0, 2, 2, 3)))]))
    prices = [(draw.choice((0, 1, 2, 3, 5)), draw.choice((0, 1, 2, 4, 8))) for garment in range(wardrobe.many())]
    return Book(wardrobe, prices, draw.choice(standings), draw.choice((0, 1, 1, 2, 2, 3)), beats, scenes)


def drawn_books(seed, many, wardrobes, most_players, most_beats):
    """So many books; the same ones for the same seed."""
    draw = random.Random(seed)
    books = []
    for number in range(many):
        # Seldom without a beat.
        beats = max(draw.randint(0, most_beats), draw.randint(0, most_beats))
        books.append(drawn_book(draw, draw.choice(wardrobes), draw.randint(1, most_players), beats))
    return books


def named(book):
    """A book with names for its places, garments and players."""
    places = ["p" + "a" * number for number in range(book.wardrobe.spots())]
    garments = ["g" + "a" * number for number in range(book.wardrobe.many())]
    return Prompt(places, garments, ["q" + "a" * number for number in range(len(book.start))], book)


def is_formed(row, forms):
    """True where the row has one of the forms."""
    return any(re.fullmatch(form, row) for form in forms)


def first_words(rows):
    return [row.split(" ")[0] for row in rows]


def standing_names(rows):
    """For each name that rows have brought its kind."""
    parted = [row.split(" ") for row in rows]
    return {words[1]: words[0] for words in parted if words[0] in ("place", "garment", "player", "outfit")}


def spelled(rows, pieces):
    """The names of the garments that pieces stand for."""
    outfits = {row.split(" ")[1]: row.split(" ")[2:] for row in rows if row.startswith("outfit ")}
    return [name for piece in pieces for name in (spelled(rows, outfits[piece]) if piece in outfits else [piece])]


def asked_of(words):
    """For each word behind the first one what is asked there."""
    asked = ASKED[words[0]]
    return [asked[min(place, len(asked) - 1)] for place in range(len(words) - 1)]


def no_name(rows, words):
    """The first name that is new and stands already, or is none of its kind; or None."""
    names = standing_names(rows)
    for name, asked in zip(words[1:], asked_of(words)):
        if asked != "-" and (name in names if asked == "n" else names.get(name) not in KINDS[asked]):
            return name
    return None


def listed(rows, words):
    """The list of a row, written out."""
    if words[0] == "garment":
        return words[4:]
    return spelled(rows, words[2:]) if words[0] in ("outfit", "wears", "stand") else []


def twice(rows, words):
    """The first name of a row's list that stands ahead, too, or is worn already; or None."""
    names = listed(rows, words)
    worn = []
    if words[0] == "wears":
        worn = [name for row in rows if row.startswith("wears ") for name in listed(rows, row.split(" "))]
    return next((name for place, name in enumerate(names) if name in worn + names[:place]), None)


def is_above(rows, words):
    """True where a row brings more than there may be."""
    firsts = first_words(rows)
    if words[0] == "gap":
        return int(words[1]) + sum(int(row.split(" ")[1]) for row in rows if row.startswith("gap ")) > 12
    if words[0] in WISH_WORDS:
        # Behind the last scene stand its wishes alone.
        return firsts[::-1].index("scene") == 12
    return firsts.count(words[0]) == {"place": 6, "garment": 6, "player": 3, "scene": 6}.get(words[0])


def fault(rows, row):
    """What a row behind good rows is refused with, as a class and fields; or None."""
    number = len(rows) + 1
    if not is_formed(row, FORMS):
        return NoRow, {"row": number}
    words = row.split(" ")
    times = [word for word in first_words(rows) if word in ("gap", "scene")]
    if words[0] in WISH_WORDS:
        is_out = times[-1:] != ["scene"]
    else:
        is_out = words[0] not in ("gap", "scene") and times != []
    if is_out:
        return OutOfPlace, {"row": number}
    if no_name(rows, words) is not None:
        return NoName, {"row": number, "name": no_name(rows, words)}
    if twice(rows, words) is not None:
        return Twice, {"row": number, "name": twice(rows, words)}
    return (TooMuch, {"row": number}) if is_above(rows, words) else None


def prompt_of(rows):
    """The prompt that good rows tell."""
    parted = [row.split(" ") for row in rows]
    names = {kind: [words[1] for words in parted if words[0] == kind] for kind in ("place", "garment", "player")}
    numbers = {name: number for kind in names for number, name in enumerate(names[kind])}
    garments = [words for words in parted if words[0] == "garment"]
    wardrobe = Wardrobe(len(names["place"]), [sorted(numbers[name] for name in words[4:]) for words in garments])
    worn = {name: [] for name in names["player"]}
    dressers, beats, scenes = 1, 0, []
    for words in parted:
        order = [numbers[name] for name in listed(rows, words)]
        if words[0] == "wears":
            worn[words[1]] += order
        elif words[0] == "dressers":
            dressers = int(words[1])
        elif words[0] == "gap":
            beats += int(words[1])
        elif words[0] == "scene":
            scenes.append((beats, []))
        elif words[0] == "stand":
            scenes[-1][1].append(("stand", numbers[words[1]], order))
        elif words[0] in WISH_WORDS:
            scenes[-1][1].append((words[0], *[numbers[name] for name in words[1:]]))
    prices = [(int(words[2]), int(words[3])) for words in garments]
    start = tuple(modelled(wardrobe, order) for order in worn.values())
    return Prompt(*names.values(), Book(wardrobe, prices, start, dressers, beats, scenes))


def drawn_name(draw, rows, asked):
    """A name where one is asked; now and then one that doesn't fit there."""
    names = standing_names(rows)
    fitting = [name for name, kind in names.items() if kind in KINDS[asked]]
    if asked == "n" and draw.randrange(10) > 0:
        return "".join(draw.choice("abcdefghij") for number in range(draw.choice((1, 2, 2, 8))))
    if fitting and draw.randrange(12) > 0:
        return draw.choice(fitting)
    return draw.choice(list(names) + ["scene", "on"])


def drawn_row(draw, rows, words):
    """A row that begins with one of these words."""
    word = draw.choice(words)
    if word == "scene":
        return word
    if word in ("gap", "dressers"):
        return f"{word} {draw.choice((0, 1, 1, 2, 3, 4, 6))}"
    told = [word]
    for asked in ASKED[word][:-1] if word in ("garment", "outfit", "wears", "stand") else ASKED[word]:
        told.append(str(draw.choice((0, 1, 2, 5, 10, 1000000))) if asked == "-" else drawn_name(draw, rows, asked))
    if word in ("garment", "outfit", "wears", "stand"):
        least = 0 if word == "stand" else 1
        told += [drawn_name(draw, rows, ASKED[word][-1]) for number in range(max(least, draw.choice((0, 1, 1, 2, 3))))]
    return " ".join(told)


def drawn_prompts(seed, many):
    """So many lists of good rows, the same ones for the same seed, each with rows that are refused behind some of them.

    Of these each comes as a pair: how many of the rows stand ahead, and the row.
    """
    draw = random.Random(seed)
    setting = ["place", "place", "garment", "garment", "player", "outfit", "wears", "wears", "dressers"]
    passing = ["gap", "scene", "scene", "see", "bare", "stand", "see", "bare", "stand", "stand", "see"]
    found = []
    for number in range(many):
        rows, refused = ["place head", "player ann"], []
        for usual, others in ((setting, passing), (passing, setting)):
            for step in range(draw.choice((6, 14, 26, 40))):
                row = drawn_row(draw, rows, usual if draw.randrange(15) > 0 or usual == setting else others)
                if fault(rows, row) is None:
                    rows.append(row)
                else:
                    refused.append((len(rows), row))
        found.append((rows, refused))
    return found


def frozen(thing):
    """What a thing holds, in a form that tells kinds apart and that no later change reaches."""
    if thing.__class__ in FIELDS:
        return (thing.__class__.__name__,) + tuple(frozen(getattr(thing, name)) for name in FIELDS[thing.__class__])
    if isinstance(thing, Wardrobe):
        return ("Wardrobe", thing.spots(), tuple(tuple(thing.covers(g)) for g in range(thing.many())))
    if isinstance(thing, (list, tuple)):
        return (thing.__class__.__name__,) + tuple(frozen(part) for part in thing)
    return (thing.__class__.__name__, copy.deepcopy(thing))


def spoil(thing):
    """Changes every list within a thing."""
    if thing.__class__ in FIELDS:
        spoil([getattr(thing, name) for name in FIELDS[thing.__class__]])
    if isinstance(thing, (list, tuple)):
        for part in thing:
            spoil(part)
    if isinstance(thing, list):
        thing.reverse()
        thing.append("spoiled")


class Asking(unittest.TestCase):
    """Asks the program, and sees each time that what is handed in stays and what is told is the asker's own."""

    def told(self, ask, *handed):
        """The answer."""
        before = frozen(handed)
        answer = ask(*handed)
        self.assertEqual(frozen(handed), before)
        first = frozen(answer)
        self.assert_handed_is_let_go(ask, handed, first)
        again = ask(*handed)
        spoil(again)
        self.assertEqual(frozen(answer), first)
        self.assertEqual(frozen(handed), before)
        self.assertEqual(frozen(ask(*handed)), first)
        return answer

    def assert_handed_is_let_go(self, ask, handed, first):
        """What is done later to what was handed in doesn't change what was told."""
        own = copy.deepcopy(handed)
        answer = ask(*own)
        spoil(own)
        self.assertEqual(frozen(answer), first)

    def refused(self, error, ask, *handed, **fields):
        """Sees that asking is refused with this very class, and these fields, kinds and all."""
        before = frozen(handed)
        with self.assertRaises(error) as caught:
            ask(*handed)
        self.assertIs(caught.exception.__class__, error)
        for name, value in fields.items():
            self.assertEqual(frozen(getattr(caught.exception, name)), frozen(value))
        self.assertEqual(frozen(handed), before)
