"""What lies over each side on a floor, and so corners, walks, what is near, and patches of the floor."""

from whatrims.errors import TooMany
from whatrims.floors import Floor
from whatrims.plain import is_number
from whatrims.ringcounts import SIDES_INSIDE, sides_outside

MOST_NEAR = 2000
MOST_WITHIN = 400


def over(p, q, place, i):
    """Return the place over side i of the tile of a place, and the number that the side has there."""
    floor = Floor(p, q)
    path, side = floor.over(floor.path_of(place), i)
    return (floor.place_of(path), side)


def side_words(p, q, place):
    """Return the tuple of the words that tell where each side leads."""
    floor = Floor(p, q)
    kind = floor.kind(floor.path_of(place))
    if kind == "O":
        return ("out",) * p
    return ("in",) * SIDES_INSIDE[kind] + ("ahead",) + ("out",) * sides_outside(p, kind) + ("next",)


def neighbours(p, q, place):
    """Return the list of the places over the sides."""
    floor = Floor(p, q)
    path = floor.path_of(place)
    return [floor.place_of(floor.over(path, i)[0]) for i in range(p)]


def round_corner(p, q, place, i):
    """Return the list of the shares round the corner at which side i begins."""
    floor = Floor(p, q)
    path = floor.path_of(place)
    found = []
    for _ in range(q):
        found.append((floor.place_of(path), i))
        path, side = floor.over(path, i)
        i = (side + 1) % p
    return found


def walked(p, q, place, sides):
    """Return the list of the places to which a walk over these sides comes."""
    floor = Floor(p, q)
    path = floor.path_of(place)
    found = [floor.place_of(path)]
    for i in sides:
        path, _ = floor.over(path, i)
        found.append(floor.place_of(path))
    return found


def straight(p, q, place, i, n):
    """Return where one comes going n times over a side and on to the one opposite, p being even."""
    floor = Floor(p, q)
    path = floor.path_of(place)
    for _ in range(n):
        path, side = floor.over(path, i)
        i = (side + p // 2) % p
    return (floor.place_of(path), i)


def near(p, q, place, n):
    """Return the ascending list of the places to which at most n sides lead, TooMany if they are too many."""
    floor = Floor(p, q)
    layer = [floor.path_of(place)]
    reached = {layer[0]: None}
    for _ in range(n):
        layer = _reach_on(floor, layer, reached)
        if len(reached) > MOST_NEAR:
            raise TooMany()
    return sorted([floor.place_of(path) for path in reached])


def _reach_on(floor, layer, reached):
    """Return the list of the paths over the sides of these that are not yet in the dict reached.

    They are put into it, each with the path from which it is reached and the
    number of the side there.
    """
    found = []
    for path in layer:
        for i in range(floor.p):
            other, _ = floor.over(path, i)
            if other not in reached:
                reached[other] = (path, i)
                found.append(other)
    return found


def least_sides(p, q, one, other):
    """Return the least number of sides from one place to another one, TooMany if too many are nearer."""
    return len(least_walk(p, q, one, other))


def least_walk(p, q, one, other):
    """Return a list of as few sides as can be that lead from one place to another one."""
    floor = Floor(p, q)
    first = floor.path_of(one)
    path = floor.path_of(other)
    reached = {first: None}
    layer = [first]
    nearer = 0
    while path not in reached:
        nearer += len(layer)
        if nearer > MOST_NEAR:
            raise TooMany()
        layer = _reach_on(floor, layer, reached)
    sides = []
    while path != first:
        path, i = reached[path]
        sides.append(i)
    return sides[::-1]


def judge_walk(p, q, one, other, value):
    """Return None if any value is such as least_walk may return, else its first fault."""
    least = least_sides(p, q, one, other)
    if not _are_sides(p, value):
        return ("form",)
    floor = Floor(p, q)
    path = floor.path_of(one)
    for i in value:
        path, _ = floor.over(path, i)
    end = floor.place_of(path)
    if end != other:
        return ("ends", end)
    return ("longer", len(value) - least) if len(value) > least else None


def _are_sides(p, value):
    if not isinstance(value, (list, tuple)):
        return False
    return all([is_number(part) and 0 <= part < p for part in value])


def patch(p, q, places):
    """Return the gluing of the tiles of these places, tied as they lie on the floor."""
    floor = Floor(p, q)
    paths = [floor.path_of(place) for place in places]
    numbers = {path: t for t, path in enumerate(paths)}
    ties = []
    for t, path in enumerate(paths):
        for i in range(p):
            other, j = floor.over(path, i)
            if other in numbers and (t, i) < (numbers[other], j):
                ties.append(((t, i), (numbers[other], j)))
    return ((p,) * len(paths), tuple(ties))


def within_ring(p, q, n):
    """Return the patch of all places of the rings from 0 to n, TooMany if they are too many."""
    floor = Floor(p, q)
    places = []
    for k in range(n + 1):
        if len(places) + floor.size(k) > MOST_WITHIN:
            raise TooMany()
        places += [(k, j) for j in range(floor.size(k))]
    return patch(p, q, places)
