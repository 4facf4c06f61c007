"""New names: strings of letters in their own order, a, b, .., z, aa, ab, .., without those that are taken."""

from tripmeans.programs import LETTERS, is_name


def word_at(number):
    """The string with a number, from 0 on, in the order a, b, .., z, aa, ab, .."""
    word = ""
    left = number + 1
    while left > 0:
        left, letter = divmod(left - 1, len(LETTERS))
        word = LETTERS[letter] + word
    return word


class Namer:
    """Gives one name after the other, each with the same beginning, none of them taken or given before."""

    def __init__(self, start, taken):
        self.start = start
        self.taken = {name: True for name in taken}
        self.number = 0

    def new_name(self):
        """The first name that is neither taken nor given before."""
        name = ""
        while name in self.taken or not is_name(name):
            name = self.start + word_at(self.number)
            self.number += 1
        self.taken[name] = True
        return name
