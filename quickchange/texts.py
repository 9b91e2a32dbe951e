"""Prompts as texts: read from rows, and written as rows."""

from quickchange.prompts import Prompt
from quickchange.reading import Reading, book_of, check_complete, let_in
from quickchange.rows import order_of


def read_prompt(rows):
    """The prompt that a list of rows tells."""
    reading = Reading()
    for row in rows:
        let_in(reading, row)
    check_complete(reading)
    return Prompt(reading.places, reading.garments, reading.players, book_of(reading))


def named(names, numbers):
    """The names of these numbers, each behind a blank."""
    return "".join([" " + names[number] for number in numbers])


def garment_row(prompt, garment):
    """The row of a garment."""
    name = prompt.garments[garment]
    price_on = prompt.book.prices[garment][0]
    price_off = prompt.book.prices[garment][1]
    places = named(prompt.places, prompt.book.wardrobe.covers(garment))
    return f"garment {name} {price_on} {price_off}{places}"


def wears_rows(prompt):
    """For each player that wears something at the start the row that says so."""
    rows = []
    for player, wearing in zip(prompt.players, prompt.book.start):
        order = order_of(prompt.book.wardrobe, wearing)[1]
        if len(order) > 0:
            garments = named(prompt.garments, order)
            rows.append(f"wears {player}{garments}")
    return rows


def wish_row(prompt, wish):
    """The row of a wish."""
    player = prompt.players[wish[1]]
    if wish[0] == "stand":
        garments = named(prompt.garments, wish[2])
        return f"stand {player}{garments}"
    place = prompt.places[wish[2]]
    if wish[0] == "bare":
        return f"bare {player} {place}"
    garment = prompt.garments[wish[3]]
    return f"see {player} {place} {garment}"


def gap_rows(beats):
    """The row of a gap of so many beats, where there are any."""
    return [f"gap {beats}"] if beats > 0 else []


def scene_rows(prompt):
    """The rows of the gaps and scenes."""
    rows = []
    moment = 0
    for when, wishes in prompt.book.scenes:
        rows.extend(gap_rows(when - moment))
        rows.append("scene")
        rows.extend([wish_row(prompt, wish) for wish in wishes])
        moment = when
    return rows + gap_rows(prompt.book.beats - moment)


def written_rows(prompt):
    """The rows of a prompt; read again they tell the same."""
    dressers = prompt.book.dressers
    rows = [f"place {name}" for name in prompt.places]
    rows.extend([garment_row(prompt, garment) for garment in range(len(prompt.garments))])
    rows.extend([f"player {name}" for name in prompt.players])
    rows.extend(wears_rows(prompt))
    rows.append(f"dressers {dressers}")
    return rows + scene_rows(prompt)
