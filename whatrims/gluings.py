"""Gluings: tiles, laid side to side by their ties."""

from whatrims.plain import is_number, is_pair

LEAST_SIZE = 3
GREATEST_SIZE = 24


def is_gluing(value):
    """Return whether any value is a gluing."""
    return is_pair(value) and _are_sizes(value[0]) and _are_ties(value[0], value[1])


def _are_sizes(value):
    return isinstance(value, tuple) and value != () and all([is_size(part) for part in value])


def is_size(value):
    """Return whether any value is the number of sides of a tile."""
    return is_number(value) and LEAST_SIZE <= value <= GREATEST_SIZE


def _are_ties(sizes, value):
    if not isinstance(value, tuple) or not all([_is_tie(sizes, part) for part in value]):
        return False
    sides = [side for tie in value for side in tie]
    return list(value) == sorted(value) and len(set(sides)) == len(sides)


def _is_tie(sizes, value):
    # The sides are compared only when both are known to be pairs of numbers.
    if not is_pair(value) or not has_side(sizes, value[0]) or not has_side(sizes, value[1]):
        return False
    return value[0] < value[1]


def has_side(sizes, value):
    """Return whether any value is a side of tiles of these sizes."""
    if not is_pair(value) or not is_number(value[0]) or not is_number(value[1]):
        return False
    t, i = value
    return 0 <= t < len(sizes) and 0 <= i < sizes[t]


def is_side(gluing, value):
    """Return whether any value is a side of the gluing."""
    return has_side(gluing[0], value)


def sides_of(gluing):
    """Return the ascending list of all sides."""
    return [(t, i) for t, size in enumerate(gluing[0]) for i in range(size)]


def rim_sides(gluing):
    """Return the ascending list of the sides that are in no tie."""
    tied_sides = mates(gluing)
    return [side for side in sides_of(gluing) if side not in tied_sides]


def mates(gluing):
    """Return the dict from each side that is in a tie to the other side of it."""
    found = {}
    for one, other in gluing[1]:
        found[one] = other
        found[other] = one
    return found


def mate_of(gluing, side):
    """Return the side that a side is tied with, None if it is on a rim."""
    for one, other in gluing[1]:
        if one == side:
            return other
        if other == side:
            return one
    return None


def next_side(gluing, side):
    """Return the next side of the same tile in the round."""
    t, i = side
    return (t, (i + 1) % gluing[0][t])


def side_before(gluing, side):
    """Return the side of the same tile that is ahead in the round."""
    t, i = side
    return (t, (i - 1) % gluing[0][t])


def one_tile(s):
    """Return the gluing of one tile with s sides."""
    return ((s,), ())


def beside(one, other):
    """Return the gluing of the tiles of both, those of other behind those of one."""
    many = len(one[0])
    moved = [((t + many, i), (u + many, j)) for (t, i), (u, j) in other[1]]
    return (one[0] + other[0], one[1] + tuple(moved))


def tied(gluing, one, other):
    """Return the gluing with one more tie, of two sides on rims."""
    return (gluing[0], _in_order([*gluing[1], (one, other)]))


def parted(gluing, side):
    """Return the gluing without the tie of this side."""
    return (gluing[0], tuple([tie for tie in gluing[1] if side not in tie]))


def part_of(gluing, tiles):
    """Return the gluing of these tiles and of the ties between them."""
    sizes, ties = gluing
    numbers = {t: number for number, t in enumerate(tiles)}
    kept = []
    for (t, i), (u, j) in ties:
        if t in numbers and u in numbers:
            kept.append(((numbers[t], i), (numbers[u], j)))
    return (tuple([sizes[t] for t in tiles]), tuple(kept))


def named(gluing, order, firsts):
    """Return the gluing with tile t numbered order[t], its side firsts[t] numbered 0."""
    sizes = list(gluing[0])
    for t, size in enumerate(gluing[0]):
        sizes[order[t]] = size
    sides = {}
    for t, i in sides_of(gluing):
        sides[(t, i)] = (order[t], (i - firsts[t]) % gluing[0][t])
    return (tuple(sizes), _renamed(gluing[1], sides))


def mirrored(gluing):
    """Return the gluing with each tile gone round the other way."""
    sides = {}
    for t, i in sides_of(gluing):
        sides[(t, i)] = (t, gluing[0][t] - 1 - i)
    return (gluing[0], _renamed(gluing[1], sides))


def _renamed(ties, sides):
    return _in_order([(sides[one], sides[other]) for one, other in ties])


def _in_order(ties):
    """Return the ties, their sides in any order, as a gluing has them."""
    return tuple(sorted([tuple(sorted(tie)) for tie in ties]))
