"""What gluings are on the whole: pieces, counts, discs, balls, kinds."""

from whatrims.corners import corners, inner_corners, rim_corners
from whatrims.gluings import mates
from whatrims.rims import rims


def pieces(gluing):
    """Return the list of the pieces, each an ascending tuple of tiles."""
    lists = _tied_tiles(gluing)
    found = []
    seen = {}
    for t in range(len(gluing[0])):
        if t not in seen:
            piece = [u for layer in _layers(lists, t) for u in layer]
            found.append(tuple(sorted(piece)))
            for u in piece:
                seen[u] = True
    return found


def counts(gluing):
    """Return how many tiles, sides, corners and inner corners there are."""
    sizes, ties = gluing
    return (len(sizes), sum(sizes) - len(ties), len(corners(gluing)), len(inner_corners(gluing)))


def worth(gluing):
    """Return the number of corners, less that of sides, with that of tiles added."""
    tiles, sides, corner_count, _ = counts(gluing)
    return corner_count - sides + tiles


def handles(gluing):
    """Return how many handles a gluing of one piece has."""
    return (2 - len(rims(gluing)) - worth(gluing)) // 2


def twice(gluing):
    """Return the ascending list of the tiles that come twice at some corner."""
    found = {}
    for corner in corners(gluing):
        met = {}
        for t, _ in corner:
            if t in met:
                found[t] = True
            met[t] = True
    return sorted(found)


def is_disc(gluing):
    """Return whether the gluing is a disc."""
    return _is_whole(gluing, 1, 1)


def is_ball(gluing):
    """Return whether the gluing is a ball."""
    return _is_whole(gluing, 0, 2)


def _is_whole(gluing, rim_count, due_worth):
    if len(pieces(gluing)) != 1 or len(rims(gluing)) != rim_count:
        return False
    return worth(gluing) == due_worth and twice(gluing) == []


def kind_fault(gluing, p, q):
    """Return None if the gluing is of the kind (p, q), else its first fault."""
    for t, size in enumerate(gluing[0]):
        if size != p:
            return ("tile", t)
    for corner in inner_corners(gluing):
        if len(corner) != q:
            return ("inner", corner)
    for corner in rim_corners(gluing):
        if len(corner) >= q:
            return ("rim", corner)
    return None


def is_of(gluing, p, q):
    """Return whether the gluing is of the kind (p, q)."""
    return kind_fault(gluing, p, q) is None


def over_sides(gluing, t):
    """Return the tiles on the other hand of the sides of tile t, None for rim sides."""
    tied_sides = mates(gluing)
    found = []
    for i in range(gluing[0][t]):
        found.append(tied_sides[(t, i)][0] if (t, i) in tied_sides else None)
    return tuple(found)


def touching(gluing, t):
    """Return the ascending list of the other tiles at the corners of tile t."""
    found = {}
    for corner in corners(gluing):
        tiles = [u for u, _ in corner]
        if t in tiles:
            for u in tiles:
                found[u] = True
    return [u for u in sorted(found) if u != t]


def apart(gluing, t, u):
    """Return the least number of ties from tile t to tile u, None if none lead there."""
    for distance, layer in enumerate(layers(gluing, t)):
        if u in layer:
            return distance
    return None


def layers(gluing, t):
    """Return the list of the lots of tiles that are 0, 1, 2, .. apart from tile t."""
    return _layers(_tied_tiles(gluing), t)


def _tied_tiles(gluing):
    """Return the list that has, for each tile, the list of tiles over its ties."""
    found = [[] for _ in gluing[0]]
    for (t, _), (u, _) in gluing[1]:
        found[t].append(u)
        found[u].append(t)
    return found


def _layers(lists, t):
    found = []
    reached = {t: True}
    layer = [t]
    while layer:
        found.append(tuple(sorted(layer)))
        outer = []
        for one in layer:
            for other in lists[one]:
                if other not in reached:
                    reached[other] = True
                    outer.append(other)
        layer = outer
    return found
