"""Rings round one tile: the kinds of their tiles, and how many there are."""

from math import isqrt

from whatrims.errors import TooMany
from whatrims.sums import floor_of

MOST_KINDS = 1000

# Off the flat kinds rings beyond this one have too many tiles to be counted.
LAST_RING = 400

# By a tile's kind: over how many sides of the ring ahead it lies.
SIDES_INSIDE = {"O": 0, "S": 1, "C": 0, "D": 0, "A": 1, "B": 2}


def ring_kinds(p, q, n):
    """Return the kinds of the tiles of ring n as a string, TooMany if they are too many."""
    made = all_makes(p, q)
    kinds = "O"
    # A ring has no fewer tiles than the one ahead of it.
    for _ in range(n):
        kinds = "".join([made[kind] for kind in kinds])
        if len(kinds) > MOST_KINDS:
            raise TooMany()
    return kinds


def makes(p, q):
    """Return the dict from each kind of tiles to the string of the kinds that it makes."""
    if q == 3:
        return {kind: "B" + "A" * (sides_outside(p, kind) - 2) for kind in ("A", "B")}
    if p == 3:
        return {"S": "", "C": "S" + "C" * (q - 5) + "D", "D": "S" + "C" * (q - 6) + "D"}
    share = "S" + "C" * (q - 3)
    # At the last corner the next tile of the ring stands, too, and one fewer is missing.
    return {kind: share * (sides_outside(p, kind) - 1) + share[:-1] for kind in ("S", "C")}


def sides_outside(p, kind):
    """Return how many sides of a tile of this kind lie under the next ring."""
    return p if kind == "O" else p - 2 - SIDES_INSIDE[kind]


def all_makes(p, q):
    """Return the dict that makes returns, with what the tile of ring 0 makes, too: ring 1."""
    return {"O": _first_ring(p, q), **makes(p, q)}


def _first_ring(p, q):
    if q == 3:
        return "A" * p
    if p == 3:
        return ("S" + "C" * (q - 4) + "D") * 3
    return ("S" + "C" * (q - 3)) * p


def ring_counts(p, q, n):
    """Return the dict from each kind to how many tiles of it ring n has, TooMany if it is too far out."""
    if _is_too_far(p, q, n):
        raise TooMany()
    return _counts(p, q, n, None)


def _is_too_far(p, q, n):
    return n > LAST_RING and floor_of(p, q) != "flat"


def _counts(p, q, n, m):
    """Return what ring_counts does, but modulo m, unless that is None."""
    if n == 0:
        return {"O": 1 if m is None else 1 % m}
    rows = _rows(p, q)
    counts = _of_ring_0(rows)
    # The rows are those of 1, 2, 4, 8 .. rings at once.
    left = n
    while left > 0:
        if left % 2 == 1:
            counts = _led_on(counts, rows, m)
        rows = {kind: _led_on(rows[kind], rows, m) for kind in rows}
        left //= 2
    return {kind: counts[kind] for kind in counts if kind != "O"}


def _rows(p, q):
    """Return the dict from each kind to the dict of how many of each kind it makes."""
    made = all_makes(p, q)
    return {kind: {other: made[kind].count(other) for other in made} for kind in made}


def _of_ring_0(rows):
    return {kind: 1 if kind == "O" else 0 for kind in rows}


def _led_on(counts, rows, m):
    """Return how many of each kind those of counts make, by the rows, modulo m unless that is None."""
    found = {}
    for other in counts:
        total = sum([counts[kind] * rows[kind][other] for kind in counts])
        found[other] = total if m is None else total % m
    return found


def ring_size(p, q, n):
    """Return the number of tiles of ring n, TooMany if it is too far out."""
    return sum(ring_counts(p, q, n).values())


def within(p, q, n):
    """Return the number of tiles of the rings from 0 to n, TooMany if that is too far out."""
    if floor_of(p, q) == "flat":
        return 1 + _tiles_ahead(ring_size(p, q, 1), n + 1)
    if _is_too_far(p, q, n):
        raise TooMany()
    return sum(_sizes(p, q, n))


def _tiles_ahead(first, n):
    """Return how many tiles the rings from 1 to n - 1 have on a flat floor, ring 1 having so many as first tells."""
    # There ring n has n times as many tiles as ring 1.
    return first * n * (n - 1) // 2


def _sizes(p, q, n):
    """Return the list of the numbers of tiles of the rings from 0 to n."""
    rows = _rows(p, q)
    counts = _of_ring_0(rows)
    found = [1]
    for _ in range(n):
        counts = _led_on(counts, rows, None)
        found.append(sum(counts.values()))
    return found


def ring_rests(p, q, n, m):
    """Return the dict of ring_counts, each number modulo m, however far out ring n is."""
    return _counts(p, q, n, m)


def ring_of_tile(p, q, k):
    """Return the ring in which tile k is, and its number in it, TooMany if that is too far out."""
    if k == 0:
        return (0, 0)
    if floor_of(p, q) == "flat":
        first = ring_size(p, q, 1)
        # The greatest n for which the rings from 1 to n - 1 have no more tiles than there are ahead of tile k.
        n = (1 + isqrt(1 + 8 * ((k - 1) // first))) // 2
        return (n, k - 1 - _tiles_ahead(first, n))
    left = k
    for n, size in enumerate(_sizes(p, q, LAST_RING)):
        if left < size:
            return (n, left)
        left -= size
    raise TooMany()
