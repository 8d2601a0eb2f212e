"""Rims drawn on flat floors, and the sizes that rim words tell."""

from math import gcd

from whatrims.errors import TooMany
from whatrims.sums import bend, floor_of, least_turn, rim_sum
from whatrims.plain import is_number

FOUR_STEPS = ((1, 0), (0, 1), (-1, 0), (0, -1))
SIX_STEPS = ((1, 0), (0, 1), (-1, 1), (-1, 0), (0, -1), (1, -1))

# By the tiles' number of sides: at the letter t a rim turns by a - b t steps.
TURNS = {3: (3, 1), 4: (2, 1), 6: (3, 2)}

# What cross_sum tells round one tile.
TILE_SUMS = {3: 1, 4: 2, 6: 6}

# On each flat floor two discs of one length and one total: four squares in a
# block and three in a row; six triangles about a corner and four in a strip;
# four hexagons in a lozenge and three in a row.
UNLIKE = {
    3: ((2, 2, 2, 2, 2, 2), (1, 3, 2, 1, 3, 2)),
    4: ((1, 2, 1, 2, 1, 2, 1, 2), (1, 2, 2, 1, 1, 2, 2, 1)),
    6: ((2, 1, 1, 1, 2, 1, 1, 2, 1, 1, 1, 2, 1, 1), (2, 1, 1, 1, 1, 2, 1, 2, 1, 1, 1, 1, 2, 1)),
}

LEAST_LENGTH = 3
GREATEST_LENGTH = 16
MOST_WORDS = 20000


def drawn(p, q, word):
    """Return the places of a rim's corners, drawn in order on a flat floor."""
    steps = _steps(p)
    places = [(0, 0)]
    heading = 0
    for k, letter in enumerate(word):
        # The drawing sets out along the first step, whatever letter 0 is.
        if k > 0:
            heading += _turn(p, letter)
        x, y = places[-1]
        across, up = steps[heading % len(steps)]
        places.append((x + across, y + up))
    return places


def _steps(p):
    return FOUR_STEPS if p == 4 else SIX_STEPS


def _turn(p, letter):
    most, less = TURNS[p]
    return most - less * letter


def turns_of(p, q, word):
    """Return the sum of the turns of all letters."""
    return sum([_turn(p, letter) for letter in word])


def comes_home(p, q, word):
    """Return whether the drawing ends where it began, having gone round once."""
    return drawn(p, q, word)[-1] == (0, 0) and turns_of(p, q, word) == len(_steps(p))


def touches(p, q, word):
    """Return the ascending list of the pairs of corners that are drawn at one place."""
    places = drawn(p, q, word)
    many = len(word)
    return [(i, j) for i in range(many) for j in range(i + 1, many) if places[i] == places[j]]


def cross_sum(places):
    """Return the sum of x w - u y over neighbours (x, y) and (u, w)."""
    total = 0
    for (x, y), (u, w) in zip(places, places[1:]):
        total += x * w - u * y
    return total


def area_of(p, q, word):
    """Return the number of tiles that the drawing of a word that comes home encloses."""
    return cross_sum(drawn(p, q, word)) // TILE_SUMS[p]


def size_of(p, q, word):
    """Return the numbers of tiles and inner corners that a rim word tells, or why none."""
    if floor_of(p, q) == "flat":
        return _flat_size(p, q, word)
    scale = bend(p, q)
    tiles_up = rim_sum(q, word)
    tiles = _fraction(tiles_up, scale)
    inner = _fraction((2 - len(word)) * scale + tiles_up * (p - 2), 2 * scale)
    if tiles[1] == 1 and tiles[0] >= 1 and inner[1] == 1 and inner[0] >= 0:
        return ("size", tiles[0], inner[0])
    return ("none", (tiles, inner))


def _flat_size(p, q, word):
    turns = turns_of(p, q, word)
    if turns != len(_steps(p)):
        return ("none", ("turns", turns))
    last = drawn(p, q, word)[-1]
    if last != (0, 0):
        return ("none", ("open", last))
    tiles = area_of(p, q, word)
    inner_twice = 2 - len(word) + tiles * (p - 2)
    if tiles < 1 or inner_twice < 0 or inner_twice % 2 != 0:
        return ("none", ("area", tiles))
    return ("size", tiles, inner_twice // 2)


def _fraction(upper, lower):
    """Return upper over lower in least terms, the lower number above 0."""
    divisor = gcd(upper, lower)
    if lower < 0:
        divisor = -divisor
    return (upper // divisor, lower // divisor)


def unlike_sizes(p, q):
    """Return two words of one length and one total with unlike sizes, None off the flat kinds."""
    if floor_of(p, q) != "flat":
        return None
    one, other = UNLIKE[p]
    return ("words", one, other)


def judge_unlike(p, q, value):
    """Return None if any value is such as unlike_sizes may return, else its first fault."""
    flat = floor_of(p, q) == "flat"
    if value is None:
        return ("flat",) if flat else None
    if not flat or not _are_words(q, value):
        return ("form",)
    _, one, other = value
    if len(one) != len(other):
        return ("length",)
    if sum(one) != sum(other):
        return ("total",)
    sizes = [size_of(p, q, one), size_of(p, q, other)]
    for k, size in enumerate(sizes):
        if size[0] == "none":
            return ("size", k)
    return ("alike", sizes[0][1]) if sizes[0][1] == sizes[1][1] else None


def _are_words(q, value):
    if not isinstance(value, tuple) or len(value) != 3 or value[0] != "words":
        return False
    return _is_word(q, value[1]) and _is_word(q, value[2])


def _is_word(q, value):
    if not isinstance(value, tuple) or not LEAST_LENGTH <= len(value) <= GREATEST_LENGTH:
        return False
    return all([is_number(letter) and 1 <= letter < q for letter in value])


def sized_words(p, q, b):
    """Return the ascending list of the words of b letters, least turns, that tell a size."""
    found = []
    for word in all_words(q, b, MOST_WORDS):
        if least_turn(word) == word and size_of(p, q, word)[0] == "size":
            found.append(word)
    return found


def sizes_told(p, q, b):
    """Return the ascending list of the numbers of tiles that words of b letters tell."""
    return sorted({size_of(p, q, word)[1] for word in sized_words(p, q, b)})


def all_words(q, b, most):
    """Return the ascending list of the words of b letters, TooMany if they are more than most."""
    many = 1
    for _ in range(b):
        many *= q - 1
        if many > most:
            raise TooMany()
    words = [()]
    for _ in range(b):
        words = [(*word, letter) for word in words for letter in range(1, q)]
    return words
