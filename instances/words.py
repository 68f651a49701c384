"""Rows as words, read one after the other, each refused where it may not stand."""

from instances.conventions import NAME_SIGNS, is_name
from instances.errors import InvalidText

FIGURES = "0123456789"
MOST_FIGURES = 20


def rows_of(text):
    """The rows of a text; the empty one has none."""
    return [] if text == "" else text.split("\n")


def words_of(row):
    """The words of a row."""
    words = []
    is_going_on = False
    for sign in row:
        is_part = sign in NAME_SIGNS
        if is_part and is_going_on:
            words[-1] = words[-1] + sign
        elif sign != " ":
            words.append(sign)
        is_going_on = is_part
    return words


def is_number_word(word):
    """Whether it is a whole number of up to 20 figures without noughts ahead."""
    if not 1 <= len(word) <= MOST_FIGURES or not all([sign in FIGURES for sign in word]):
        return False
    return word == "0" or word[0] != "0"


class Line:
    """The words of a row, of which those ahead of `at` have been read."""

    def __init__(self, number, words):
        self.number = number
        self.words = words
        self.at = 0

    def word(self):
        """The word that is read next; "" if none is left."""
        return self.words[self.at] if self.at < len(self.words) else ""

    def require(self, is_right):
        """Refuses the next word if it is not right; the number of words, if none is left."""
        if not is_right:
            raise InvalidText((self.number, self.at))

    def take(self):
        """The next word, which is read."""
        self.at += 1
        return self.words[self.at - 1]

    def take_one_of(self, words):
        """The next word, one of these, or of a dict's keys."""
        self.require(self.word() in words)
        return self.take()

    def take_new(self, names):
        """The next word, a name that is none of these."""
        self.require(is_name(self.word()) and self.word() not in names)
        return self.take()

    def take_number(self, least, end):
        """The next word as a number, from the least one on and below the end, if one is told."""
        word = self.word()
        self.require(is_number_word(word))
        self.require(least <= int(word) and (end is None or int(word) < end))
        return int(self.take())

    def goes_on(self, is_more_let, is_end_let):
        """Reads a comma, if one thing more may stand, or the closing bracket, if it may; whether it was a comma."""
        if is_more_let and self.word() == ",":
            self.take()
            return True
        self.require(is_end_let)
        self.take_one_of((")",))
        return False

    def end(self):
        """Refuses a word behind the last one."""
        self.require(self.at == len(self.words))
