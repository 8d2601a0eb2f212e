"""Duals: gluings whose tiles are the inner corners of a gluing."""

from whatrims.corners import inner_corners
from whatrims.errors import TooMany
from whatrims.gluings import is_size


def dual(gluing):
    """Return the gluing whose tiles are the inner corners, None if there are none.

    TooMany if one of them has too few or too many shares for a tile.
    """
    corners = inner_corners(gluing)
    if not corners:
        return None
    sizes = tuple([len(corner) for corner in corners])
    if not all([is_size(size) for size in sizes]):
        raise TooMany()
    sides = {}
    for t, corner in enumerate(corners):
        for k, share in enumerate(corner):
            # Shares go round their corner to the right, sides round a tile to the left.
            sides[share] = (t, -k % len(corner))
    ties = []
    for one, other in gluing[1]:
        if one in sides and other in sides:
            ties.append(tuple(sorted([sides[one], sides[other]])))
    return (sizes, tuple(sorted(ties)))
