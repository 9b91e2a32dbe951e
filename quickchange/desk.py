"""The desk: it is told rows, one at a time, keeps those of a prompt, and rehearses it."""

from quickchange.beats import beat_done
from quickchange.errors import NoBeat, NoHands, NotSeen
from quickchange.forms import check_form, is_of_prompt, words_of
from quickchange.plans import plan_from
from quickchange.quickest import quickest_change
from quickchange.reading import Reading, book_of, check_complete, check_names, check_twice, let_in
from quickchange.rows import order_of
from quickchange.slices import shows_scenes
from quickchange.stays import trouble_of
from quickchange.wearing import dressed, worn_in


def deed_text(reading, deed):
    """A deed with names."""
    player = reading.players[deed[0]]
    word = deed[1]
    garment = reading.garments[deed[2]]
    return f"{player} {word} {garment}"


def beat_text(reading, beat):
    """The deeds of a beat, or a dash where there are none."""
    if len(beat) == 0:
        return "-"
    return ", ".join([deed_text(reading, deed) for deed in beat])


def plan_text(reading, plan):
    """The trouble of a plan and its beats, or none."""
    if plan[0] == "none":
        return "none"
    return "; ".join([str(plan[1])] + [beat_text(reading, beat) for beat in plan[2]])


def left_text(plan):
    """The trouble of a plan, or none."""
    return "none" if plan[0] == "none" else str(plan[1])


def wearing_text(reading, wardrobe, player, wearing):
    """A player's name, and what they wear, from within."""
    name = reading.players[player]
    return " ".join([f"{name}:"] + reading.garment_names(order_of(wardrobe, wearing)[1]))


def deeds_told(reading, words):
    """The deeds that are told by three words each."""
    deeds = []
    for player, word, garment in zip(words[0::3], words[1::3], words[2::3]):
        deeds.append((reading.number_of(player), word, reading.number_of(garment)))
    return deeds


class Desk:
    """The rows kept, and the moment and standing that the rehearsal has come to, with what is spent."""

    def __init__(self):
        self.reading = Reading()
        # None as long as the rows kept tell no place or no player.
        self.book = None
        self.moment = 0
        self.standing = None
        self.spent = 0

    def say(self, row):
        """The answer to a row."""
        words = words_of(row)
        if is_of_prompt(words[0]):
            return self.keep(row)
        check_form(words, self.reading.next_row)
        if words[0] == "again":
            return self.go_back()
        check_complete(self.reading)
        check_names(self.reading, words)
        return self.answer(words)

    def keep(self, row):
        """Puts a row of the prompt behind the rows kept."""
        let_in(self.reading, row)
        if self.reading.is_complete():
            self.book = book_of(self.reading)
        return self.go_back()

    def go_back(self):
        """Goes back to moment 0 and the start."""
        self.moment = 0
        self.standing = None if self.book is None else self.book.start
        self.spent = 0
        return "ok"

    def answer(self, words):
        """The answer to a row whose form and names are as they should be."""
        word = words[0]
        if word == "beat":
            return self.do_beat(deeds_told(self.reading, words[1:]))
        if word == "quickest":
            return self.tell_quickest(self.reading.number_of(words[1]), self.reading.written_out(words[2:]))
        if word == "plan":
            return plan_text(self.reading, plan_from(self.book, self.moment, self.standing))
        if word == "left":
            return left_text(plan_from(self.book, self.moment, self.standing))
        if word == "spent":
            return str(self.spent)
        if word == "moment":
            return str(self.moment)
        return self.tell_now()

    def do_beat(self, beat):
        """Does a beat, where one is left, hands are there, and what then has to be seen is seen."""
        if self.moment >= self.book.beats:
            raise NoBeat()
        if len(beat) > self.book.dressers:
            raise NoHands()
        standing = beat_done(self.book.wardrobe, self.standing, beat)
        if not shows_scenes(self.book, self.moment + 1, standing):
            raise NotSeen()
        self.moment = self.moment + 1
        self.standing = standing
        self.spent = self.spent + trouble_of(self.book.prices, beat)
        return "ok"

    def tell_now(self):
        """What each player wears."""
        told = []
        for player, wearing in enumerate(self.standing):
            told.append(wearing_text(self.reading, self.book.wardrobe, player, wearing))
        return "; ".join(told)

    def tell_quickest(self, player, order):
        """How many beats the quickest change takes to the standing in which the player wears just this order."""
        taken = []
        for other, wearing in enumerate(self.standing):
            if other != player:
                taken.extend(self.reading.garment_names(worn_in(wearing)))
        check_twice(self.reading, self.reading.garment_names(order), taken)
        goal = list(self.standing)
        goal[player] = dressed(self.book.wardrobe, order)
        return str(len(quickest_change(self.book.wardrobe, self.standing, tuple(goal))[0]))
