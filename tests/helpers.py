"""What the tests share: examples as they stand in the document, and gluings to try."""

from whatrims.gluings import beside, one_tile, tied
from whatrims.pieces import is_of
from whatrims.rims import rim_of
from whatrims.rings import ring, ringed

ONE = ((4,), ())
TWO = ((4, 4), (((0, 1), (1, 3)),))
BLOCK = ((4, 4, 4, 4), (((0, 1), (1, 3)), ((0, 2), (3, 0)), ((1, 2), (2, 0)), ((2, 3), (3, 1))))
BAND = ((4, 4), (((0, 1), (1, 3)), ((0, 3), (1, 1))))
APART = ((3, 4, 3), (((0, 0), (2, 1)),))
BALL = ((3, 3), (((0, 0), (1, 0)), ((0, 1), (1, 2)), ((0, 2), (1, 1))))
TETRAHEDRON = ((3, 3, 3, 3), (((0, 0), (1, 0)), ((0, 1), (3, 0)), ((0, 2), (2, 0)), ((1, 1), (2, 2)),
                              ((1, 2), (3, 1)), ((2, 1), (3, 2))))
TORUS = ((4,), (((0, 0), (0, 2)), ((0, 1), (0, 3))))
FOLDED = ((3,), (((0, 0), (0, 1)),))
FOLDED_BALL = ((4,), (((0, 0), (0, 1)), ((0, 2), (0, 3))))
TUBE = ((4,), (((0, 0), (0, 2)),))
PIERCED_TORUS = ((5,), (((0, 0), (0, 2)), ((0, 1), (0, 3))))

NAMED = [ONE, TWO, BLOCK, BAND, APART, BALL, TETRAHEDRON, TORUS, FOLDED, FOLDED_BALL, TUBE, PIERCED_TORUS]


# Values that are nothing that a point asks for.
STRANGE = [None, True, False, 0, 1, -1, 4, 10 ** 39, "", "4 3", "ab", (), [], {}, (1,), [1], {"a": 1}, {0: (4,), 1: ()}]


def gluings_of(sizes):
    """Return all gluings of tiles of these sizes."""
    sides = [(t, i) for t, size in enumerate(sizes) for i in range(size)]
    return [(tuple(sizes), tuple(sorted(ties))) for ties in _matchings(sides)]


def _matchings(sides):
    if not sides:
        return [[]]
    first, rest = sides[0], sides[1:]
    found = _matchings(rest)
    for k, mate in enumerate(rest):
        for ties in _matchings(rest[:k] + rest[k + 1:]):
            found.append([(first, mate)] + ties)
    return found


FAMILY = NAMED + [gluing for sizes in ((3,), (5,), (6,), (3, 3), (3, 4)) for gluing in gluings_of(sizes)]
FAMILY += gluings_of((3, 3, 3))[::7]


def lay(gluing, side, k, s):
    """Return the gluing with a tile of s sides laid on k sides of the rim from side on."""
    new = len(gluing[0])
    stretch = rim_of(gluing, side)[:k]
    gluing = beside(gluing, one_tile(s))
    for j, each in enumerate(stretch):
        gluing = tied(gluing, each, (new, k - 1 - j))
    return gluing


def discs_of(p, q, n):
    """Return discs of the kind (p, q) of 1 to n tiles, laid in all ways, from one side of a rim on."""
    found = latest = [one_tile(p)]
    for _ in range(n - 1):
        laid = []
        for gluing in latest:
            first = [side for side in [(t, i) for t, s in enumerate(gluing[0]) for i in range(s)]
                     if all(side not in tie for tie in gluing[1])][0]
            rim = rim_of(gluing, first)
            for side in rim:
                for k in range(1, min(p, len(rim))):
                    more = lay(gluing, side, k, p)
                    if is_of(more, p, q):
                        laid.append(more)
        latest = sorted(set(laid))
        found = found + latest
    return found


def rings_laid(p, q, most, least=2):
    """Return the gluing of as many rings round one tile as have so many tiles, and the list of its tiles' places.

    There are at least so many rings as least tells, however many tiles they have.
    """
    gluing, side, places = one_tile(p), (0, 0), [(0, 0)]
    word = (1,) * p
    while True:
        overs, word = ring(p, q, word)
        if len(places) + len(overs) > most and places[-1][0] >= least:
            return gluing, places
        first = [n for n, r in enumerate(overs) if p - 2 - r > 0][0]
        gluing = ringed(gluing, p, q, side)
        side = (len(places) + first, overs[first] + 1)
        places += [(places[-1][0] + 1, j) for j in range(len(overs))]


def rising(word, many, least=2):
    """Return all tuples of so many entries of ways, each () or (i, a), i rising from least on, in Python's order."""
    if many == 0:
        return [()]
    found = [((), *rest) for rest in rising(word, many - 1, least)]
    for i in range(least, len(word)):
        for a in range(word[i]):
            found += [((i, a), *rest) for rest in rising(word, many - 1, i + 1)]
    return found


def rests_read(q, word, way, pairs):
    """Return the list of the words of a way's rests, None if it is no way, by the words of the document.

    If pairs is true, two letters can be a rest.
    """
    s, b = len(way) + 2, len(word)
    # Each met corner: its number in the tile, its number on the rim, the tiles ahead and those behind.
    met = [(1, 1, 0, word[1] - 1)]
    for k, entry in enumerate(way):
        if entry != ():
            met.append((k + 2, entry[0], entry[1], word[entry[0]] - 1 - entry[1]))
    met.append((s, b, word[0] - 1, 0))
    found = []
    for (c, i, _, behind), (d, j, ahead, _) in zip(met, met[1:]):
        if d - c == 1 and j == i + 1 and (not pairs or behind == 0 or ahead == 0):
            if behind != 0 or ahead != 0:
                return None
        elif behind == 0 or ahead == 0:
            return None
        else:
            found.append((behind,) + word[i + 1:j] + (ahead,) + (q - 1,) * (d - c - 1))
    return found


def changes(value, into):
    """Return all copies of a value in which one part, at any depth, is another one, or is gone or doubled."""
    found = [other for other in into]
    if isinstance(value, tuple):
        found.append(list(value))
        for k, part in enumerate(value):
            found += [value[:k] + (other,) + value[k + 1:] for other in changes(part, into)]
            found.append(value[:k] + value[k + 1:])
            found.append(value[:k] + (part, part) + value[k + 1:])
        found.append(value[::-1])
    if value in (0, 1) and not isinstance(value, bool):
        found.append(bool(value))
    return found


def exactly_equal(one, other):
    """Return whether two values are equal, True and 1 being unlike, lists and tuples too."""
    if type(one) is not type(other):
        return False
    if isinstance(one, (list, tuple)):
        return len(one) == len(other) and all(exactly_equal(a, b) for a, b in zip(one, other))
    if isinstance(one, dict):
        return exactly_equal(list(one.items()), list(other.items()))
    return one == other


def run_examples(case, text):
    """Run the rows of a text of the document's interface, and compare what they return."""
    names = {}
    rows = [row.strip() for row in text.strip().splitlines()]
    for k, row in enumerate(rows):
        if not row.startswith(">>> "):
            continue
        due = rows[k + 1] if k + 1 < len(rows) and not rows[k + 1].startswith(">>> ") else None
        with case.subTest(row=row):
            case.assertEqual(_told(row[4:], names, due), due)


def _told(code, names, due):
    if due is None:
        exec(code, names)
        return None
    try:
        return repr(eval(code, names))
    except (ValueError, LookupError) as error:
        told = ", ".join(f"{name}={value!r}" for name, value in vars(error).items())
        return f"raises {type(error).__name__}({told})"
