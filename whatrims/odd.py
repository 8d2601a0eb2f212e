"""Discs of odd tiles: which numbers of tiles rims let be, and rims filled with such tiles, or barred."""

from whatrims.corners import inner_corners
from whatrims.firsts import put_together, ways_with_rests
from whatrims.gluings import is_gluing, is_side, mate_of
from whatrims.pieces import is_disc
from whatrims.plain import is_number, is_pair
from whatrims.rims import rim_word

LEAST_LENGTH = 2


def due_counts(q, sizes, word, n):
    """Return the ascending list of the numbers of tiles of each size, n at most together, that a rim word lets be."""
    due = _due_sum(q, word)
    return [counts for counts in _all_counts(sizes, n) if _sum_of(q, sizes, counts) == due]


def _all_counts(sizes, n):
    """Return the ascending list of all tuples of a number for each size, from 1 to n together."""
    found = [()]
    for _ in sizes:
        found = [(*counts, many) for counts in found for many in range(n - sum(counts) + 1)]
    return [counts for counts in found if sum(counts) > 0]


def _sum_of(q, sizes, counts):
    return sum([many * (2 * q - (q - 2) * s) for many, s in zip(counts, sizes)])


def _due_sum(q, word):
    return q * (2 - len(word)) + 2 * sum(word)


class Dues:
    """What the sums alone tell of the words of an odd task."""

    def __init__(self, q, sizes, n):
        self.q = q
        self.sizes = sizes
        self.table = {}
        for counts in _all_counts(sizes, n):
            total = _sum_of(q, sizes, counts)
            self.table[total] = min(sum(counts), self.table.get(total, n))

    def least_due(self, word):
        """Return the least number of tiles that the sums let a disc with this rim word have, None if there is none."""
        return self.table.get(_due_sum(self.q, word))

    def odd_ways(self, word, cost, most):
        """Yield the ways of the word for tiles of each size, as ways_with_rests does."""
        for s in self.sizes:
            yield from ways_with_rests(s, self.q, word, cost, most)


class OddFillings:
    """What is known of the words of an odd task, each asked for as few tiles as can be."""

    def __init__(self, q, sizes, n):
        self.dues = Dues(q, sizes, n)
        # By words: the least number of tiles of a disc, its first tile's way, and the words of its rests.
        self.found = {}
        # By words: up to how many tiles there is no disc.
        self.barred = {}

    def least(self, word, most):
        """Return the least number of tiles of a disc with this rim word, None if it is above most."""
        due = self.dues.least_due(word)
        if due is None:
            return None
        m = max(due, self.barred.get(word, 0) + 1)
        while m <= most and word not in self.found:
            self._look(word, m)
            m += 1
        if word not in self.found or self.found[word][0] > most:
            return None
        return self.found[word][0]

    def _look(self, word, m):
        """Find out whether there is a disc of m tiles, there being none of fewer."""
        for way, rests in self._due_ways(word, m - 1):
            if self._bars(rests, m - 1) == []:
                self.found[word] = (m, way, rests)
                return
        self.barred[word] = m

    def _due_ways(self, word, most):
        """Return the list of the ways, with their rests, that the sums let be with most tiles beside the first one."""
        dues = self.dues
        return list(dues.odd_ways(word, lambda rest: dues.least_due(rest), most))

    def _bars(self, rests, most):
        """Return a list of pairs (rest, m) that bar a way, its rests sharing most tiles, [] if there is no such list.

        No disc of m tiles or fewer has the word rest.
        """
        dues = [self.dues.least_due(rest) for rest in rests]
        spare = most - sum(dues)
        needed = []
        for rest, due in zip(rests, dues):
            m = self.least(rest, due + spare)
            if m is None:
                return [(rest, due + spare)]
            needed.append(m)
        if sum(needed) <= most:
            return []
        return [(rest, m - 1) for rest, m, due in zip(rests, needed, dues) if m > due]

    def disc(self, word):
        """Return a disc with this rim word from its side (0, 0) on, one having been found."""
        _, way, rests = self.found[word]
        return put_together(word, way, [(self.disc(rest), (0, 0)) for rest in rests])

    def lot(self, word, n):
        """Return a lot of pairs that bars the word, there being no disc of n tiles or fewer with it."""
        members = {word: n}
        waiting = [word]
        while waiting:
            other = waiting.pop()
            most = members[other] - 1
            ways = self._due_ways(other, most)
            for _, rests in ways:
                if sum([_least_open(self.dues, members, rest) for rest in rests]) <= most:
                    for rest, m in self._bars(rests, most):
                        members[rest] = max(m, members.get(rest, 0))
                        waiting.append(rest)
        return tuple(sorted([(other, members[other]) for other in members]))


def _least_open(dues, members, rest):
    """Return the least share of a rest that is neither due nothing nor barred by the members of a lot, None if none is.

    The dict members has the greatest number of tiles of each word's pairs.
    """
    due = dues.least_due(rest)
    return None if due is None else max(due, members.get(rest, 0) + 1)


def fill_with(q, sizes, word, n):
    """Return an odd disc with this rim word, and its first side, or a lot of pairs that bars the word."""
    known = OddFillings(q, sizes, n)
    if known.least(word, n) is None:
        return ("barred", known.lot(word, n))
    return ("disc", known.disc(word), (0, 0))


def judge_fill_with(q, sizes, word, n, value):
    """Return None if any value is such as fill_with may return, else its first fault."""
    if _is_disc_told(value):
        return _disc_fault(q, sizes, word, n, value[1], value[2])
    if _is_lot_told(q, n, value):
        return _lot_fault(q, sizes, word, n, value[1])
    return ("form",)


def _is_disc_told(value):
    if not isinstance(value, tuple) or len(value) != 3 or value[0] != "disc":
        return False
    _, gluing, side = value
    return is_gluing(gluing) and is_side(gluing, side) and mate_of(gluing, side) is None


def _is_lot_told(q, n, value):
    if not is_pair(value) or value[0] != "barred" or not isinstance(value[1], tuple) or value[1] == ():
        return False
    lot = value[1]
    if not all([_is_member(q, n, part) for part in lot]):
        return False
    return all([one < other for one, other in zip(lot, lot[1:])])


def _is_member(q, n, value):
    if not is_pair(value) or not isinstance(value[0], tuple) or len(value[0]) < LEAST_LENGTH:
        return False
    if not all([is_number(letter) and 1 <= letter < q for letter in value[0]]):
        return False
    return is_number(value[1]) and 1 <= value[1] <= n


def _disc_fault(q, sizes, word, n, gluing, side):
    if not is_disc(gluing):
        return ("disc",)
    for t, size in enumerate(gluing[0]):
        if size not in sizes:
            return ("size", t)
    for corner in inner_corners(gluing):
        if len(corner) != q:
            return ("inner", corner)
    if len(gluing[0]) > n:
        return ("many", len(gluing[0]))
    told = rim_word(gluing, side)
    return None if told == word else ("word", told)


def _lot_fault(q, sizes, word, n, lot):
    if (word, n) not in lot:
        return ("lacks",)
    dues = Dues(q, sizes, n)
    # The pairs ascend, so the greatest number of a word comes last.
    members = {other: m for other, m in lot}
    for other, m in lot:
        most = m - 1
        for _ in dues.odd_ways(other, lambda rest: _least_open(dues, members, rest), most):
            return ("open", (other, m))
    return None
