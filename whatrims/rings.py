"""Rings about rims: what lies next outside, told by the rim word, and laid round the rim."""

from whatrims.errors import NoRing
from whatrims.rims import rim_of, rim_word

LEAST_RING = 3
LEAST_WORD = 3

# A tile of a ring is told as (side, r): it lies over r sides of the rim, the
# first one being side; if r is 0, it touches the corner ahead of side alone.


def ring(p, q, word):
    """Return how many sides of the rim each tile of the ring lies over, and the next rim word."""
    tiles = _ring_tiles(p, q, word)
    return tuple([r for _, r in tiles]), _next_word(p, tiles)


def ringed(gluing, p, q, side):
    """Return the gluing with the ring laid round the rim of a rim side."""
    sizes, ties = gluing
    rim = rim_of(gluing, side)
    tiles = _ring_tiles(p, q, rim_word(gluing, side))
    many = len(sizes)
    told = list(ties)
    for number, (first, r) in enumerate(tiles):
        t = many + number
        for j in range(r):
            # The tile goes along its run from behind.
            told.append((rim[(first + j) % len(rim)], (t, r - 1 - j)))
        before = many + (number - 1) % len(tiles)
        told.append(tuple(sorted([(before, p - 1), (t, r)])))
    return (sizes + (p,) * len(tiles), tuple(sorted(told)))


def _ring_tiles(p, q, word):
    """Return the list of the ring's tiles in their order, NoRing if there is no ring."""
    missing = [q - letter for letter in word]
    if p == 3 and 1 in missing:
        raise NoRing(missing.index(1))
    tiles = _tiles_in_order(missing)
    faults = _fault_places(p, q, tiles)
    if faults:
        raise NoRing(min(faults))
    if len(tiles) < LEAST_RING or len(_next_word(p, tiles)) < LEAST_WORD:
        raise NoRing(len(word))
    return tiles


def _tiles_in_order(missing):
    """Return the list of the ring's tiles in their order, [] if sides with a tile in common go all round.

    With p = 3 no corner has one missing, so each side has a tile of its own
    there, and those of a run are what is called a row below.
    """
    many = len(missing)
    ends = [i for i, number in enumerate(missing) if number > 1]
    if not ends:
        return []
    # The tile over side 0 comes first, also if its sides go over the end of the word.
    begins = ends if ends[0] == 0 else ends[-1:] + ends[:-1]
    tiles = []
    for k, begin in enumerate(begins):
        end = begins[(k + 1) % len(begins)]
        tiles.append((begin, (end - begin - 1) % many + 1))
        tiles += [(end, 0)] * (missing[end] - 2)
    return tiles


def _sides_out(p, tile):
    """Return how many sides of a tile lie outside, below 0 if it lies over too many."""
    return p - 2 - tile[1]


def _rows_ahead(p, tiles):
    """Return the list that has, for each tile, how long the row is that ends ahead of it.

    It is None for tiles of rows; so it is for all, if all are without a side
    outside: then there is no row.
    """
    found = [None] * len(tiles)
    length = 0
    # Twice round, for the row that goes over the end of the list.
    for n in list(range(len(tiles))) * 2:
        if _sides_out(p, tiles[n]) == 0:
            length += 1
        else:
            found[n] = length
            length = 0
    return found


def _fault_places(p, q, tiles):
    """Return the list of the sides that are first ones of runs, and show that there is no ring."""
    found = []
    for n, length in enumerate(_rows_ahead(p, tiles)):
        if _sides_out(p, tiles[n]) < 0:
            found.append(tiles[n][0])
        if length is not None and length + 2 >= q:
            found.append(tiles[(n - length) % len(tiles)][0])
    return found


def _next_word(p, tiles):
    """Return the tuple of the letters along the ring's outer rim."""
    word = []
    for tile, length in zip(tiles, _rows_ahead(p, tiles)):
        if length is not None:
            word += [length + 2] + [1] * (_sides_out(p, tile) - 1)
    return tuple(word)
