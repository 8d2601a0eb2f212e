"""Taking tiles off discs, one after another, and so the layings of discs."""

from whatrims.corners import corners, rim_corners
from whatrims.errors import NotLaid
from whatrims.forms import is_like
from whatrims.gluings import mates, part_of
from whatrims.laying import built, is_layings, laid_row
from whatrims.pieces import handles, pieces, twice
from whatrims.rims import rims


def taken(gluing, t):
    """Return the gluing of all tiles but one."""
    return part_of(gluing, [u for u in range(len(gluing[0])) if u != t])


def takers(gluing):
    """Return the ascending list of the tiles of a disc that could be laid last."""
    tied_sides = mates(gluing)
    on_rim = _rim_shares(gluing)
    return [t for t, size in enumerate(gluing[0]) if _last_stretch(t, size, tied_sides, on_rim) is not None]


def _rim_shares(gluing):
    """Return the dict that has True for the shares of rim corners."""
    return {share: True for corner in rim_corners(gluing) for share in corner}


def _last_stretch(t, size, tied_sides, on_rim):
    """Return where tile t lies on the others of a disc, as (first side, number of sides), if it is a taker.

    The others are one disc just if the tile's rim sides, and its corners on
    the rim, are all in one stretch: else the rest falls apart at a rim
    corner, or lies all round the tile.
    """
    sides = [i for i in range(size) if (t, i) in tied_sides]
    firsts = [i for i in sides if (t, i) in on_rim]
    if len(sides) == size or len(firsts) != 1:
        return None
    return (firsts[0], len(sides))


def takings(gluing):
    """Return the number of ways to take tiles off a disc, one after another, until one is left."""
    ways = {tuple(range(len(gluing[0]))): 1}
    for _ in gluing[0][1:]:
        fewer = {}
        for tiles in ways:
            for k in takers(part_of(gluing, tiles)):
                left = tiles[:k] + tiles[k + 1:]
                fewer[left] = fewer.get(left, 0) + ways[tiles]
        ways = fewer
    return sum(ways.values())


def layings_of(gluing):
    """Return layings of which a gluing that is like the disc is built."""
    sizes = gluing[0]
    tied_sides = mates(gluing)
    first, stretches = _taken_in_turn(gluing)
    rim = [(first, i) for i in range(sizes[first])]
    found = [(sizes[first],)]
    # What was taken last is laid first.
    for t, begin, k in stretches[::-1]:
        size = sizes[t]
        # The rim goes along the tile's sides from behind.
        i = rim.index(tied_sides[(t, (begin + k - 1) % size)])
        found.append((i, k, size))
        rim = laid_row(rim, i, k, [(t, (begin + j) % size) for j in range(k, size)])
    return tuple(found)


def _taken_in_turn(gluing):
    """Return the tile that is left, and how the others lay on the rest when they were taken, in turn."""
    sizes = gluing[0]
    tied_sides = mates(gluing)
    on_rim = _rim_shares(gluing)
    corner_at = {share: corner for corner in corners(gluing) for share in corner}
    found = []
    tiles = list(range(len(sizes)))
    while len(tiles) > 1:
        left = []
        for t in tiles:
            stretch = _last_stretch(t, sizes[t], tied_sides, on_rim)
            if stretch is None:
                left.append(t)
            else:
                found.append((t, *stretch))
                for i in range(sizes[t]):
                    _untie(tied_sides, (t, i))
                    for share in corner_at[(t, i)]:
                        on_rim[share] = True
        tiles = left
    return tiles[0], found


def _untie(tied_sides, side):
    if side in tied_sides:
        del tied_sides[tied_sides[side]]
        del tied_sides[side]


def judge_layings(gluing, value):
    """Return None if any value is layings of a gluing like the disc, else its first fault."""
    if not is_layings(value):
        return ("form",)
    try:
        made = built(value)
    except NotLaid as fault:
        return ("laid", fault.number)
    return None if is_like(made, gluing) else ("unlike",)


def not_disc(gluing):
    """Return None if the gluing is a disc, else the first reason why not."""
    lots = pieces(gluing)
    if len(lots) > 1:
        return ("pieces", lots)
    told = rims(gluing)
    if len(told) != 1:
        return ("rims", told)
    many = handles(gluing)
    if many > 0:
        return ("handles", many)
    tiles = twice(gluing)
    return ("twice", tiles[0]) if tiles else None
