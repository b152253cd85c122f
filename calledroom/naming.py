"""Fresh words for what is made anew."""

from calledroom.sums import LETTERS


class Names:
    """Words that are given away already, so that each fresh one is unlike all of them."""

    def __init__(self, words):
        self.given_away = {word: True for word in words}

    def fresh(self, stem):
        """A word that is unlike all others and begins with the stem, of four letters at most."""
        many = 0
        while stem + ending(many) in self.given_away:
            many += 1
        self.given_away[stem + ending(many)] = True
        return stem + ending(many)


def ending(many):
    """The ending by which a stem's word of this number is unlike the others: none, a, b and so on, aa, ab."""
    signs = ""
    while many > 0:
        many -= 1
        signs = LETTERS[many % len(LETTERS)] + signs
        many = many // len(LETTERS)
    return signs
