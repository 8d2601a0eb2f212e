"""Rims of gluings, and the letters along them."""

from whatrims.corners import corner_of, followed, rim_corners
from whatrims.gluings import next_side, rim_sides, side_before


def next_rim_side(gluing, side):
    """Return the rim side that begins where this one ends."""
    return corner_of(gluing, next_side(gluing, side))[-1]


def rims(gluing):
    """Return the ascending list of the rims."""
    steps = _rim_steps(gluing)
    found = []
    seen = {}
    # Going up, the first side of a rim that is met is its least one.
    for side in rim_sides(gluing):
        if side not in seen:
            rim = tuple(followed(steps, side))
            found.append(rim)
            for each in rim:
                seen[each] = True
    return found


def rim_of(gluing, side):
    """Return the rim of a rim side, from this side on."""
    return tuple(followed(_rim_steps(gluing), side))


def rim_word(gluing, side):
    """Return the letters along the rim of a rim side, from where this side begins."""
    letters = _letters(gluing)
    return tuple([letters[each] for each in rim_of(gluing, side)])


def rim_words(gluing):
    """Return the list of the rim words of all rims, from their first sides on."""
    letters = _letters(gluing)
    return [tuple([letters[side] for side in rim]) for rim in rims(gluing)]


def _rim_steps(gluing):
    """Return the dict from each rim side to the next one of its rim."""
    # Round a rim corner the tiles lie between the rim side that ends there,
    # which is ahead of the first share, and the one that begins there.
    return {side_before(gluing, corner[0]): corner[-1] for corner in rim_corners(gluing)}


def _letters(gluing):
    """Return the dict from each rim side to the letter of the corner where it begins."""
    return {corner[-1]: len(corner) for corner in rim_corners(gluing)}
