"""A reader: goes through a text, piece by piece, from its first sign on."""

from everystart.errors import BadText
from everystart.fractions import FIGURES, read_fraction
from everystart.programs import LETTERS


class Reader:
    """A text, and the place in it up to which it was read."""

    def __init__(self, text):
        self.text = text
        self.place = 0

    def run(self, signs):
        """Return the signs from the place on, as far as they are of signs, without going on."""
        behind = self.place
        while behind < len(self.text) and self.text[behind] in signs:
            behind += 1
        return self.text[self.place:behind]

    def passes(self, piece):
        """Return whether piece stands at the place; if so go on behind it."""
        if not self.text.startswith(piece, self.place):
            return False
        self.place += len(piece)
        return True

    def needs(self, piece):
        """Go on behind piece, which has to stand at the place."""
        if not self.passes(piece):
            raise BadText()

    def word(self):
        """Return the small letters at the place, perhaps none, and go on behind them."""
        letters = self.run(LETTERS)
        self.place += len(letters)
        return letters

    def fraction(self):
        """Return the fraction of which the text stands at the place, and go on behind it."""
        signs = self.run(FIGURES + "-/")
        self.place += len(signs)
        return read_fraction(signs)

    def number(self):
        """Return the integer of which the text stands at the place, and go on behind it."""
        a, b = self.fraction()
        if b != 1:
            raise BadText()
        return a

    def ends(self):
        """Check that nothing is left."""
        if self.place < len(self.text):
            raise BadText()
