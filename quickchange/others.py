"""Other books: the same one with as many dressers, or with as many further beats, as it needs."""

from quickchange.books import MOST_BEATS, MOST_DRESSERS, Book
from quickchange.plans import plan_of


def has_plan(book):
    """True where the book has a plan."""
    return plan_of(book)[0] == "plan"


def with_dressers(book, dressers):
    """The same book with so many dressers."""
    return Book(book.wardrobe, book.prices, book.start, dressers, book.beats, book.scenes)


def needed_dressers(book):
    """The least number of dressers with which the book has a plan, or None."""
    for dressers in range(MOST_DRESSERS + 1):
        if has_plan(with_dressers(book, dressers)):
            return dressers
    return None


def made_longer(book, moment, more):
    """The book with so many beats more at a moment: what comes later comes so much later."""
    scenes = [(when if when <= moment else when + more, wishes) for when, wishes in book.scenes]
    return Book(book.wardrobe, book.prices, book.start, book.dressers, book.beats + more, scenes)


def further_beats(book, moment):
    """The least number of beats by which the book, made longer at the moment, has a plan; or None."""
    for more in range(MOST_BEATS - book.beats + 1):
        if has_plan(made_longer(book, moment, more)):
            return more
    return None
