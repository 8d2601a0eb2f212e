"""All discs of a kind, by their forms."""

from whatrims.corners import inner_corners
from whatrims.errors import TooMany
from whatrims.forms import form, is_form, mirror_form, starts
from whatrims.gluings import is_gluing, one_tile, rim_sides
from whatrims.laying import laid, lays
from whatrims.pieces import is_disc, is_of
from whatrims.rims import rim_of, rim_word

MOST_FORMS = 2000


def grown(p, q, forms):
    """Return the ascending list of the forms of the discs that come of these by laying one tile."""
    return _grown(p, q, forms, None)


def _grown(p, q, forms, most):
    """Return what grown does, TooMany if they are more than most (None: as many as there are)."""
    found = {}
    for disc in forms:
        first = rim_sides(disc)[0]
        rim = rim_of(disc, first)
        for i, k in lays(p, q, rim_word(disc, first)):
            found[form(laid(disc, rim[i], k, p))] = True
        if most is not None and len(found) > most:
            raise TooMany()
    return sorted(found)


def all_discs(p, q, n):
    """Return the ascending list of the forms of all discs of the kind with n tiles."""
    forms = [form(one_tile(p))]
    for _ in range(n - 1):
        forms = _grown(p, q, forms, MOST_FORMS)
    return forms


def counted(p, q, n):
    """Return how many forms there are, how many but for mirroring, and how many by their inner corners."""
    forms = all_discs(p, q, n)
    inner = [len(inner_corners(disc)) for disc in forms]
    by_inner = [inner.count(many) for many in range(max(inner) + 1)]
    return (len(forms), len({mirror_form(disc) for disc in forms}), tuple(by_inner))


def is_disc_form(p, q, value):
    """Return whether any value is the form of a disc of the kind."""
    return is_gluing(value) and is_disc(value) and is_of(value, p, q) and is_form(value)


def most_turned(p, q, n):
    """Return the ascending list of the forms of n tiles that have the most starts."""
    forms = all_discs(p, q, n)
    turns = [len(starts(disc)) for disc in forms]
    most = max(turns)
    return [disc for disc, many in zip(forms, turns) if many == most]
