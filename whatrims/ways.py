"""Words that rims of discs of a kind may have, and the ways in which a first tile can lie there."""

from whatrims.corners import corner_of
from whatrims.drawn import size_of
from whatrims.firsts import rest_ends, rests_of, ways_with_rests
from whatrims.forms import code
from whatrims.gluings import part_of
from whatrims.pieces import pieces
from whatrims.plain import is_number
from whatrims.rims import rim_of, rim_word

LEAST_LENGTH = 3


def is_word(p, q, value):
    """Return whether any value is a word of the kind."""
    if not isinstance(value, tuple) or len(value) < LEAST_LENGTH:
        return False
    return all([is_number(letter) and 1 <= letter < q for letter in value])


def mirror_word(word):
    """Return the word gone round the other way, its first side staying the first."""
    return (word[1], word[0], *word[:1:-1])


def is_good(p, q, word):
    """Return whether the sums let a disc of the kind have this rim word."""
    # Two letters are no word: no disc of a kind has such a rim, whatever the sums tell.
    return len(word) >= LEAST_LENGTH and size_of(p, q, word)[0] == "size"


def ways(p, q, word):
    """Return the ascending list of the ways of a word."""
    return [way for way, _ in good_ways(p, q, word)]


def good_ways(p, q, word):
    """Yield the ways of a word, ascending, each with the tuple of the words of its rests."""
    if is_good(p, q, word):
        yield from ways_with_rests(p, q, word, lambda rest: 0 if is_good(p, q, rest) else None, 0)


def rests(p, q, word, way):
    """Return the list of the words of a way's rests, in order."""
    return rests_of(q, word, way)


def way_of(p, q, gluing, side):
    """Return the way of the first tile of a disc, side being its first side."""
    t, i = side
    numbers = {share: number for number, share in enumerate(rim_of(gluing, side))}
    way = []
    for c in range(2, p):
        share = (t, (i + c) % p)
        corner = corner_of(gluing, share)
        # The side that begins at a rim corner is that of its last share.
        number = numbers.get(corner[-1])
        way.append(() if number is None else (number, corner.index(share)))
    return tuple(way)


def parts_of(p, q, gluing, side):
    """Return the list of the rests of the first tile of a disc, each as its code from its first side on, and that."""
    ends = rest_ends(rim_word(gluing, side), way_of(p, q, gluing, side))
    rim = rim_of(gluing, side)
    cut = (gluing[0], tuple([tie for tie in gluing[1] if side[0] not in (tie[0][0], tie[1][0])]))
    lots = pieces(cut)
    found = []
    for (_, number, _), _ in ends:
        t, i = rim[number]
        lot = [tiles for tiles in lots if t in tiles][0]
        found.append((code(part_of(cut, lot), (lot.index(t), i)), (0, 0)))
    return found
