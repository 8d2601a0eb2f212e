"""Places in rings: their kinds and paths, what makes them, and what they touch in the ring ahead."""

from whatrims.floors import Floor
from whatrims.plain import is_number, is_pair
from whatrims.ringcounts import SIDES_INSIDE, sides_outside

LAST_RING = 1000


def inside_outside(p, q, kind):
    """Return how many sides a tile of this kind has inside, and how many outside."""
    return (SIDES_INSIDE[kind], sides_outside(p, kind))


def is_place(p, q, value):
    """Return whether any value is a place."""
    if not is_pair(value) or not is_number(value[0]) or not is_number(value[1]):
        return False
    k, j = value
    return 0 <= k <= LAST_RING and 0 <= j < Floor(p, q).size(k)


def kind_of_place(p, q, place):
    """Return the kind of the tile of a place."""
    floor = Floor(p, q)
    return floor.kind(floor.path_of(place))


def path_of(p, q, place):
    """Return the path of a place."""
    return Floor(p, q).path_of(place)


def place_of_path(p, q, path):
    """Return the place with a path."""
    return Floor(p, q).place_of(path)


def maker(p, q, place):
    """Return the place of the tile that makes that of a place, and its number among what it makes."""
    floor = Floor(p, q)
    path = floor.path_of(place)
    return (floor.place_of(path[:-1]), path[-1])


def made(p, q, place):
    """Return the list of the places that the tile of a place makes."""
    floor = Floor(p, q)
    path = floor.path_of(place)
    k = place[0] + 1
    first = floor.ahead_in_ring(path, k)
    return [(k, first + n) for n in range(len(floor.made[floor.kind(path)]))]


def first_made(p, q, place):
    """Return how many tiles of the next ring are made by the tiles ahead in the ring of a place."""
    floor = Floor(p, q)
    return floor.ahead_in_ring(floor.path_of(place), place[0] + 1)


def elders(p, q, place):
    """Return the tuple of the tiles of the ring ahead that the tile of a place touches."""
    floor = Floor(p, q)
    return tuple([floor.place_of(path) for path in _elder_paths(floor, floor.path_of(place))])


def _elder_paths(floor, path):
    first = path[:-1]
    kind = floor.kind(path)
    if first == ():
        return [first]
    if SIDES_INSIDE[kind] == 2:
        return [floor.beside(first, -1), first]
    found = [first]
    for _ in range(_other_elders(floor, path)):
        found.append(floor.beside(found[-1], 1))
    return found


def _other_elders(floor, path):
    """Return how many tiles of the ring ahead, behind the maker, the tile of a path touches."""
    if SIDES_INSIDE[floor.kind(path)] > 0:
        return 0
    maker_kind = floor.kind(path[:-1])
    if floor.p == 3:
        # Next to a tile "D" there is one without a side outside, and so a third one at the corner.
        return 2 if maker_kind == "D" else 1
    # At its last corner the maker stands beside the next tile, at the others alone.
    at_last = path[-1] // (floor.q - 2) == sides_outside(floor.p, maker_kind) - 1
    return 1 if at_last else 0
