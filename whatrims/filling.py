"""Rims filled or barred: of each word either a disc is told, or a lot of words that each lead into the lot."""

from whatrims.drawn import all_words
from whatrims.errors import TooMany
from whatrims.firsts import put_together
from whatrims.forms import code
from whatrims.gluings import is_gluing, is_side, mate_of
from whatrims.pieces import is_disc, is_of
from whatrims.rims import rim_word
from whatrims.sums import least_turn
from whatrims.ways import good_ways, is_word

MOST_FILLS = 200
MOST_WORDS = 2000


class Fillings:
    """What is known of the words of a kind (p, q), each looked at once."""

    def __init__(self, p, q):
        self.p = p
        self.q = q
        self.ways = {}
        self.firsts = {}
        self.counts = {}

    def ways_of(self, word):
        """Return the list of the ways of a word, each with the tuple of the words of its rests."""
        if word not in self.ways:
            self.ways[word] = list(good_ways(self.p, self.q, word))
        return self.ways[word]

    def first_filled(self, word):
        """Return the first way of a word all rests of which are filled, with their words, None if there is none."""
        if word not in self.firsts:
            self.firsts[word] = self._first_filled(word)
        return self.firsts[word]

    def _first_filled(self, word):
        # The rests of a way are smaller than what has the word, so this comes to an end.
        for way, words in self.ways_of(word):
            if self.barred_rest(words) is None:
                return (way, words)
        return None

    def barred_rest(self, words):
        """Return the first of these words that no disc fills, None if there is none."""
        for word in words:
            if self.first_filled(word) is None:
                return word
        return None

    def disc(self, word):
        """Return the code, from its first side on, of a disc that fills the word."""
        way, words = self.first_filled(word)
        return put_first(self.p, self.q, word, way, [(self.disc(rest), (0, 0)) for rest in words])

    def lot(self, word):
        """Return a lot that has the word, which no disc fills, and bars it."""
        found = {word: True}
        waiting = [word]
        while waiting:
            other = waiting.pop()
            for _, words in self.ways_of(other):
                if not any([rest in found for rest in words]):
                    barred = self.barred_rest(words)
                    found[barred] = True
                    waiting.append(barred)
        return tuple(sorted(found))

    def fills_of(self, word):
        """Return how many discs fill the word."""
        if word not in self.counts:
            total = 0
            for _, words in self.ways_of(word):
                many = 1
                for rest in words:
                    many = many * self.fills_of(rest)
                total += many
            self.counts[word] = total
        return self.counts[word]

    def codes(self, word):
        """Return the list of the codes of all discs that fill the word."""
        found = []
        for way, words in self.ways_of(word):
            if all([self.fills_of(rest) > 0 for rest in words]):
                for discs in self._choices(words):
                    found.append(put_first(self.p, self.q, word, way, discs))
        return found

    def _choices(self, words):
        """Return the list of all lists of discs that fill these words, one disc for each word."""
        found = [[]]
        for word in words:
            codes = self.codes(word)
            found = [[*discs, (disc, (0, 0))] for discs in found for disc in codes]
        return found


def fill(p, q, word):
    """Return a disc that fills the word, with its first side, or a lot of words that bars it."""
    known = Fillings(p, q)
    if known.first_filled(word) is None:
        return ("barred", known.lot(word))
    return ("disc", known.disc(word), (0, 0))


def judge_fill(p, q, word, value):
    """Return None if any value is such as fill may return, else its first fault."""
    if _is_disc_told(value):
        return _disc_fault(p, q, word, value[1], value[2])
    if _is_lot_told(p, q, value):
        return _lot_fault(p, q, word, value[1])
    return ("form",)


def _is_disc_told(value):
    if not isinstance(value, tuple) or len(value) != 3 or value[0] != "disc":
        return False
    return is_gluing(value[1]) and is_side(value[1], value[2])


def _is_lot_told(p, q, value):
    if not isinstance(value, tuple) or len(value) != 2 or value[0] != "barred":
        return False
    lot = value[1]
    if not isinstance(lot, tuple) or lot == () or not all([is_word(p, q, word) for word in lot]):
        return False
    return all([one < other for one, other in zip(lot, lot[1:])])


def _disc_fault(p, q, word, gluing, side):
    if not is_disc(gluing) or not is_of(gluing, p, q):
        return ("disc",)
    if mate_of(gluing, side) is not None:
        return ("rim",)
    told = rim_word(gluing, side)
    return None if told == word else ("word", told)


def _lot_fault(p, q, word, lot):
    members = {other: True for other in lot}
    if word not in members:
        return ("lacks",)
    for other in lot:
        for way, words in good_ways(p, q, other):
            if not any([rest in members for rest in words]):
                return ("open", other, way)
    return None


def fills(p, q, word):
    """Return how many discs fill the word."""
    return Fillings(p, q).fills_of(word)


def all_fills(p, q, word):
    """Return the ascending list of the codes of the discs that fill the word, TooMany if they are too many."""
    known = Fillings(p, q)
    if known.fills_of(word) > MOST_FILLS:
        raise TooMany()
    return sorted(known.codes(word))


def put_first(p, q, word, way, discs):
    """Return the code of the disc that fills the word, has this first way and these rests."""
    return code(put_together(word, way, discs), (0, 0))


def filled_words(p, q, b):
    """Return the ascending list of the words of b letters, least turns, that some disc fills."""
    known = Fillings(p, q)
    words = all_words(q, b, MOST_WORDS)
    return [word for word in words if least_turn(word) == word and known.first_filled(word) is not None]
