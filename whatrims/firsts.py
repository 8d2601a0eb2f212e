"""First tiles: how a tile can lie on the first side of a rim word, and what it leaves of the disc.

A met corner is told as (c, j, a): it is corner c of the first tile, the rim's
corner with the number j, and a of the other tiles there are ahead of the
first tile. Corner 1 is the first met one; the last one is corner 0, which
comes last in the round and so gets the number behind all others.
"""

from whatrims.gluings import beside, one_tile, tied
from whatrims.rims import rim_of


def ways_with_rests(s, q, word, cost, most):
    """Yield the ways of a tile of s sides, ascending, each with the tuple of its rests' words.

    cost(rest) tells what a rest costs, None if it cannot be; the rests of a
    way cost most together, or less.
    """
    # The last part of an entry is the word of a rest that is not paid yet, () if there is none.
    stack = [((), (), most, (1, 1, 0), ())]
    while stack:
        way, rests, left, met, rest = stack.pop()
        if rest != ():
            price = cost(rest)
            if price is None or price > left:
                continue
            left = left - price
            rests = (*rests, rest)
        if met[0] == s:
            yield way, rests
            continue
        c = len(way) + 2
        for other in _next_met(s, word, met, c):
            told = _between(q, word, met, other)
            if told is not None:
                stack.append(((*way, other[1:]) if c < s else way, rests, left, other, told))
        if c < s and _behind(word, met) > 0:
            stack.append(((*way, ()), rests, left, met, ()))


def _next_met(s, word, met, c):
    """Return the descending list of what corner c can be, if it is the next met one."""
    b = len(word)
    if c == s:
        return [(c, b, word[0] - 1)]
    if _behind(word, met) == 0:
        return [(c, met[1] + 1, 0)] if met[1] + 1 < b else []
    return [(c, j, a) for j in range(b - 1, met[1], -1) for a in range(word[j] - 1, 0, -1)]


def _behind(word, met):
    """Return how many of the other tiles at a met corner are behind the first tile."""
    return word[met[1] % len(word)] - 1 - met[2]


def _between(q, word, one, other):
    """Return the word of the rest between two met corners, () if they touch, None if neither can be."""
    c, i, _ = one
    d, j, a = other
    behind = _behind(word, one)
    if behind > 0 and a > 0:
        return (behind, *word[i + 1:j], a) + (q - 1,) * (d - c - 1)
    return () if behind == a == 0 and (d, j) == (c + 1, i + 1) else None


def rests_of(q, word, way):
    """Return the list of the words of a way's rests."""
    return [_between(q, word, one, other) for one, other in rest_ends(word, way)]


def rest_ends(word, way):
    """Return the list of the pairs of met corners with a rest between them."""
    met = [(1, 1, 0)]
    met += [(c + 2, *entry) for c, entry in enumerate(way) if entry != ()]
    met.append((len(way) + 2, len(word), word[0] - 1))
    return [(one, other) for one, other in zip(met, met[1:]) if _behind(word, one) > 0]


def put_together(word, way, discs):
    """Return the gluing of a first tile, tile 0 with its side 0, and of the discs that are its rests."""
    gluing = one_tile(len(way) + 2)
    for (one, other), (disc, side) in zip(rest_ends(word, way), discs):
        many = len(gluing[0])
        # The rest's rim goes along that of the disc, and comes back along the tile.
        under = rim_of(disc, side)[other[1] - one[1]:]
        gluing = beside(gluing, disc)
        for k, (t, i) in enumerate(under):
            gluing = tied(gluing, (0, other[0] - 1 - k), (t + many, i))
    return gluing
