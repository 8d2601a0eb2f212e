"""Coils: the first tiles of a floor, ring by ring, and the rims about them."""

from whatrims.floors import Floor
from whatrims.over import patch
from whatrims.ringcounts import SIDES_INSIDE, ring_of_tile, ring_size
from whatrims.sums import bend, floor_of, rim_length

# By the tiles' number of sides: what ring k of a flat floor is, so many times
# over. An entry (kinds, a, b) stands for these kinds, a k + b times.
FLAT_RINGS = {
    3: (("S", 0, 1), ("C", 0, 1), ("DS", 1, -1), ("C", 0, 1), ("DS", 1, -1), ("D", 0, 1)),
    4: (("S", 1, 0), ("C", 0, 1), ("S", 1, -1)),
    6: (("B", 1, -1), ("A", 0, 1)),
}


def coil(p, q, n):
    """Return the gluing of the first n tiles of the floor."""
    places = []
    k = 0
    while len(places) < n:
        places += [(k, j) for j in range(min(ring_size(p, q, k), n - len(places)))]
        k += 1
    return patch(p, q, places)


def coil_rim(p, q, n):
    """Return the rim's length of the coil of n tiles, the sum of its letters, and the number of its inner corners."""
    # Tile n, in the order from 0 on, is the first one that the coil has not.
    k, j = ring_of_tile(p, q, n)
    inner = _inside_ahead(p, q, k, j)
    # A tile closes one corner fewer than it lies on sides. The tiles of a whole
    # ring lie on as many sides of one another as there are tiles, those of a
    # part of it on one fewer.
    if j > 0:
        inner -= 1
    length = rim_length(p, n, inner)
    return (length, (n * bend(p, q) - 2 * q + q * length) // 2, inner)


def _inside_ahead(p, q, k, j):
    """Return how many sides inside there are of all tiles of the rings ahead of ring k, and of j tiles of it."""
    if floor_of(p, q) == "flat":
        return _inside_flat(p, k, j)
    floor = Floor(p, q)
    # Entry g tells how many sides inside those tiles have that come, g rings on, of a tile of each kind.
    tables = [{kind: SIDES_INSIDE[kind] for kind in floor.made}]
    for _ in range(k):
        tables.append({kind: sum([tables[-1][other] for other in floor.made[kind]]) for kind in floor.made})
    total = sum([table["O"] for table in tables[:k]])
    path = floor.path_of((k, j))
    for level, kind in enumerate(floor.kinds(path[:-1])):
        total += sum([tables[k - level - 1][other] for other in floor.made[kind][:path[level]]])
    return total


def _inside_flat(p, k, j):
    """Return what _inside_ahead does, on a flat floor."""
    pieces = [(kinds, a * k + b) for kinds, a, b in FLAT_RINGS[p]]
    share = sum([len(kinds) * times for kinds, times in pieces])
    # Ring k has p times 2 k - 1 sides inside, and so those ahead of it have p times a square.
    total = p * (k - 1) * (k - 1) + j // share * (2 * k - 1)
    left = j % share
    for kinds, times in pieces:
        whole = min(times, left // len(kinds))
        left -= whole * len(kinds)
        total += whole * _inside_of(kinds)
        if whole < times:
            return total + _inside_of(kinds[:left])
    return total


def _inside_of(kinds):
    return sum([SIDES_INSIDE[kind] for kind in kinds])
