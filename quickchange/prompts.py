"""Prompts: a book with names for its places, garments and players."""


class Prompt:
    """The lists of names, in the order in which they are numbered, and the book."""

    def __init__(self, places, garments, players, book):
        self.places = list(places)
        self.garments = list(garments)
        self.players = list(players)
        # The very one that was handed in: it is for reading, and nothing changes it.
        self.book = book
