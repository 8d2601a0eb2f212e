"""Corners of gluings: the shares of tiles round them."""

from whatrims.gluings import mate_of, mates, next_side, side_before, sides_of


def onward(gluing, share):
    """Return the share that comes next round the same corner, None at a rim."""
    mate = mate_of(gluing, share)
    return None if mate is None else next_side(gluing, mate)


def backward(gluing, share):
    """Return the share that comes ahead round the same corner, None at a rim."""
    # The side that ends at this share begins, on the other hand, at the one ahead.
    return mate_of(gluing, side_before(gluing, share))


def corner_of(gluing, share):
    """Return the corner in which a share is."""
    steps = _onward_steps(gluing)
    return _corner(steps, _turned_about(steps), share)


def is_inner(gluing, corner):
    """Return whether a corner of the gluing is an inner one."""
    return mate_of(gluing, corner[-1]) is not None


def corners(gluing):
    """Return the list of all corners, by their least shares."""
    steps = _onward_steps(gluing)
    steps_back = _turned_about(steps)
    found = []
    seen = {}
    # Going up, the first share of a corner that is met is its least one.
    for share in sides_of(gluing):
        if share not in seen:
            corner = _corner(steps, steps_back, share)
            found.append(corner)
            for each in corner:
                seen[each] = True
    return found


def inner_corners(gluing):
    """Return the list of the inner corners, in the order of corners."""
    tied_sides = mates(gluing)
    return [corner for corner in corners(gluing) if corner[-1] in tied_sides]


def rim_corners(gluing):
    """Return the list of the rim corners, in the order of corners."""
    tied_sides = mates(gluing)
    return [corner for corner in corners(gluing) if corner[-1] not in tied_sides]


def followed(steps, first):
    """Return the list from first on, as the dict steps leads, until it ends or comes home."""
    found = [first]
    while found[-1] in steps and steps[found[-1]] != first:
        found.append(steps[found[-1]])
    return found


def _onward_steps(gluing):
    """Return the dict from each share with one onward to that one."""
    tied_sides = mates(gluing)
    return {side: next_side(gluing, tied_sides[side]) for side in tied_sides}


def _turned_about(steps):
    return {steps[share]: share for share in steps}


def _corner(steps, steps_back, share):
    ahead = followed(steps_back, share)
    first = min(ahead) if ahead[-1] in steps_back else ahead[-1]
    return tuple(followed(steps, first))
