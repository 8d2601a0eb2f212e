"""Laying tiles on rims, one after another."""

from whatrims.errors import NotLaid
from whatrims.gluings import is_size
from whatrims.plain import is_number
from whatrims.rims import rim_of


def laid(gluing, side, k, s):
    """Return the gluing with one tile of s sides more, laid on k sides of the rim from side on."""
    sizes, ties = gluing
    told = list(ties) + _ties_over(rim_of(gluing, side)[:k], len(sizes))
    return (sizes + (s,), tuple(sorted(told)))


def _ties_over(stretch, t):
    """Return the ties of tile t, laid on a stretch of rim sides, all of tiles of lesser numbers."""
    return [(side, (t, len(stretch) - 1 - j)) for j, side in enumerate(stretch)]


def laid_word(word, i, k, s):
    """Return the word of the rim behind laying a tile of s sides on k sides from corner i on."""
    letters = list(word)
    letters[(i + k) % len(word)] += 1
    return tuple(laid_row(letters, i, k, [word[i] + 1] + [1] * (s - k - 1)))


def laid_row(row, i, k, new):
    """Return what stands along a rim, if new stands in the place of k entries of the row from i on.

    The list begins with what the row began with, or, if that is gone, behind
    the k entries; where entry i is the row's first one, new begins there.
    """
    end = i + k
    if end < len(row):
        return row[:i] + new + row[end:]
    return row[end - len(row):i] + new


def may_lay(p, q, word, i, k):
    """Return whether a tile of p sides may be laid there so that the kind (p, q) is kept."""
    many = len(word)
    if i >= many or not 1 <= k < min(p, many):
        return False
    between = [word[(i + j) % many] for j in range(1, k)]
    ends_low = word[i] < q - 1 and word[(i + k) % many] < q - 1
    return ends_low and all([letter == q - 1 for letter in between])


def lays(p, q, word):
    """Return the ascending list of the pairs (i, k) for which a tile may be laid."""
    return [(i, k) for i in range(len(word)) for k in range(1, p) if may_lay(p, q, word, i, k)]


def is_layings(value):
    """Return whether any value has the form of layings."""
    if not isinstance(value, tuple) or value == ():
        return False
    return _is_entry(value[0], 1) and all([_is_entry(entry, 3) for entry in value[1:]])


def _is_entry(value, length):
    if not isinstance(value, tuple) or len(value) != length:
        return False
    return all([is_number(part) and part >= 0 for part in value]) and is_size(value[-1])


def built(layings):
    """Return the gluing that comes of layings, NotLaid if there is none."""
    gluing, _ = _built_with_rim(layings)
    return gluing


def begins(layings):
    """Return the rim side at which the word behind all layings begins, NotLaid if there is none."""
    _, rim = _built_with_rim(layings)
    return rim[0]


def _built_with_rim(layings):
    """Return the gluing that comes of layings, and the list of its rim's sides along the word."""
    ties = []
    rim = [(0, i) for i in range(layings[0][0])]
    for t, (i, k, s) in list(enumerate(layings))[1:]:
        if i >= len(rim) or not 1 <= k < min(s, len(rim)):
            raise NotLaid(t)
        ties += _ties_over((rim + rim)[i:i + k], t)
        rim = laid_row(rim, i, k, [(t, j) for j in range(k, s)])
    return (tuple([entry[-1] for entry in layings]), tuple(sorted(ties))), rim
