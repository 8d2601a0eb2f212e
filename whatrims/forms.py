"""Likeness: codes and forms of gluings of one piece, and how one is put to another."""

from whatrims.gluings import is_gluing, mates, mirrored, named, sides_of
from whatrims.pieces import pieces
from whatrims.plain import is_number, is_same
from whatrims.rims import rims

REASONS = ("sizes", "rims", "forms")


def code(gluing, side):
    """Return the gluing named from a side on."""
    tiles, firsts = _naming(gluing, side)
    numbers = {t: number for number, t in enumerate(tiles)}
    many = len(tiles)
    return named(gluing, tuple([numbers[t] for t in range(many)]), tuple([firsts[t] for t in range(many)]))


def _naming(gluing, side):
    """Return the tiles in the order of their new numbers, and the dict of the sides that get the number 0."""
    sizes = gluing[0]
    tied_sides = mates(gluing)
    tiles = [side[0]]
    firsts = {side[0]: side[1]}
    for _, other, (t, i) in _tied_in_turn(sizes, tied_sides, side):
        # A tile gets its number when its first tied side is met: that is its side 0.
        if other[0] == len(tiles):
            tiles.append(t)
            firsts[t] = i
    return tiles, firsts


def _tied_in_turn(sizes, tied_sides, side):
    """Yield the tied sides in their new order: the new names of each and of its mate, and the mate's old one."""
    tiles = [side[0]]
    firsts = [side[1]]
    numbers = {side[0]: 0}
    number = 0
    while number < len(tiles):
        t = tiles[number]
        for i in range(sizes[t]):
            mate = tied_sides.get((t, (firsts[number] + i) % sizes[t]))
            if mate is not None:
                u, j = mate
                if u not in numbers:
                    numbers[u] = len(tiles)
                    tiles.append(u)
                    firsts.append(j)
                other = numbers[u]
                yield (number, i), (other, (j - firsts[other]) % sizes[u]), mate
        number += 1


def form(gluing):
    """Return the least code of the gluing."""
    told, _ = _form_and_starts(gluing)
    return told


def starts(gluing):
    """Return the ascending list of the sides whose code is the form."""
    _, sides = _form_and_starts(gluing)
    return sides


def _form_and_starts(gluing):
    sizes = gluing[0]
    tied_sides = mates(gluing)
    sides = sides_of(gluing)
    least_sizes = sizes
    if min(sizes) != max(sizes):
        least_sizes, sides = _least_told(sides, lambda side, bound: _sizes_up_to(sizes, tied_sides, side, bound))
    least_ties, found = _least_told(sides, lambda side, bound: _ties_up_to(sizes, tied_sides, side, bound))
    return (tuple(least_sizes), tuple(least_ties)), found


def _least_told(sides, told_up_to):
    """Return the least of what is told of the sides, and the list of those of which it is told.

    told_up_to(side, bound) returns None for what is above bound, which is
    None itself at first.
    """
    least = None
    found = []
    for side in sides:
        told = told_up_to(side, least)
        if told is not None:
            if told != least:
                least = told
                found = []
            found.append(side)
    return least, found


def _sizes_up_to(sizes, tied_sides, side, bound):
    """Return the list of the sizes of the code from a side, None if it is above bound."""
    told = [sizes[side[0]]]
    even = bound is not None
    if even and told[0] != bound[0]:
        if told[0] > bound[0]:
            return None
        even = False
    for _, other, mate in _tied_in_turn(sizes, tied_sides, side):
        if other[0] == len(told):
            # The first size that is another one decides.
            size = sizes[mate[0]]
            if even and size != bound[len(told)]:
                if size > bound[len(told)]:
                    return None
                even = False
            told.append(size)
    return told


def _ties_up_to(sizes, tied_sides, side, bound):
    """Return the list of the ties of the code from a side, None if it is above bound."""
    told = []
    even = bound is not None
    for one, other, _ in _tied_in_turn(sizes, tied_sides, side):
        if one < other:
            # The ties come ascending, so the first one that is another one decides.
            tie = (one, other)
            if even and tie != bound[len(told)]:
                if tie > bound[len(told)]:
                    return None
                even = False
            told.append(tie)
    return told


def is_form(value):
    """Return whether any value is the form of a gluing of one piece."""
    return is_gluing(value) and len(pieces(value)) == 1 and form(value) == value


def likening(one, other):
    """Return how one gluing is put to another that is like it, else why it is not like it."""
    told = (_sizes_told(one), _sizes_told(other))
    if told[0] != told[1]:
        return ("sizes", *told)
    told = (_rims_told(one), _rims_told(other))
    if told[0] != told[1]:
        return ("rims", *told)
    one_form, one_starts = _form_and_starts(one)
    other_form, other_starts = _form_and_starts(other)
    if one_form != other_form:
        return ("forms", one_form, other_form)
    return ("like", *_put(one, one_starts[0], other, other_starts[0]))


def _sizes_told(gluing):
    return tuple(sorted(gluing[0]))


def _rims_told(gluing):
    return tuple(sorted([len(rim) for rim in rims(gluing)]))


def _put(one, side, other, other_side):
    """Return the tiles and the sides to which those of one are put, so that side goes to other_side."""
    tiles, firsts = _naming(one, side)
    other_tiles, other_firsts = _naming(other, other_side)
    put_tiles = list(tiles)
    put_firsts = list(tiles)
    for t, u in zip(tiles, other_tiles):
        put_tiles[t] = u
        put_firsts[t] = (other_firsts[u] - firsts[t]) % one[0][t]
    return tuple(put_tiles), tuple(put_firsts)


def is_like(one, other):
    """Return whether two gluings of one piece each are like."""
    return likening(one, other)[0] == "like"


def judge_likening(one, other, value):
    """Return None if any value is such as likening may return, else its first fault."""
    if not _has_answer_form(one, other, value):
        return ("form",)
    right = likening(one, other)
    if value[0] != right[0]:
        return ("word", right[0])
    if right[0] != "like":
        return None if is_same(value, right) else ("told", right)
    return _tie_fault(one, other, value[1], value[2])


def _has_answer_form(one, other, value):
    if not isinstance(value, tuple) or len(value) != 3:
        return False
    if value[0] == "like":
        return _are_put_tiles(one, other, value[1]) and _are_put_firsts(one, value[2])
    return value[0] in REASONS


def _are_put_tiles(one, other, value):
    """Return whether value puts each tile to one of its size, each once."""
    if not isinstance(value, tuple) or not all([is_number(part) for part in value]):
        return False
    if len(value) != len(one[0]) or sorted(value) != list(range(len(other[0]))):
        return False
    return all([other[0][u] == size for u, size in zip(value, one[0])])


def _are_put_firsts(one, value):
    """Return whether value has the number of a side for each tile, tiles being put to those of their sizes."""
    if not isinstance(value, tuple) or len(value) != len(one[0]):
        return False
    return all([is_number(part) and 0 <= part < size for part, size in zip(value, one[0])])


def _tie_fault(one, other, tiles, firsts):
    tied_sides = mates(one)
    put = {(t, i): (tiles[t], (firsts[t] + i) % one[0][t]) for t, i in tied_sides}
    other_tied = mates(other)
    for side in sorted(tied_sides):
        if other_tied.get(put[side]) != put[tied_sides[side]]:
            return ("tie", side)
    return None


def is_mirrorlike(gluing):
    """Return whether the gluing is like its mirrored one."""
    return is_like(gluing, mirrored(gluing))


def mirror_form(gluing):
    """Return the lesser of the gluing's form and its mirrored one's."""
    return min(form(gluing), form(mirrored(gluing)))
