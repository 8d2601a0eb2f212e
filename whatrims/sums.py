"""Sums over tiles, over corners and along rims; words turned about."""

from whatrims.corners import inner_corners, rim_corners
from whatrims.gluings import rim_sides
from whatrims.pieces import worth


def bend(p, q):
    """Return D, which tells the floor of a kind: above 0, 0 or below it."""
    return 2 * p + 2 * q - p * q


def floor_of(p, q):
    """Return "ball", "flat" or "wide"."""
    if bend(p, q) == 0:
        return "flat"
    return "ball" if bend(p, q) > 0 else "wide"


def ball_counts(p, q):
    """Return how many tiles, sides and corners the ball of a kind has, None if there is none."""
    if floor_of(p, q) != "ball":
        return None
    tiles = 4 * q // bend(p, q)
    return (tiles, tiles * p // 2, tiles * p // q)


def turned_word(word, k):
    """Return the word in the round from letter k on."""
    return word[k:] + word[:k]


def least_turn(word):
    """Return the least of the words that turn a word."""
    return min([turned_word(word, k) for k in range(len(word))])


def back_word(word):
    """Return the word read from behind."""
    return word[::-1]


def tiles_sum(gluing, q):
    """Return the sum over all tiles that rims tell by q."""
    return sum([2 * q - (q - 2) * size for size in gluing[0]])


def worth_sum(gluing, q):
    """Return what tiles_sum is if inner corners have q shares on the whole."""
    return 2 * q * worth(gluing) - q * len(rim_sides(gluing)) + 2 * _total(gluing)


def over_corners(gluing, q):
    """Return by how many shares all inner corners together go over q each."""
    return sum([len(corner) - q for corner in inner_corners(gluing)])


def corners_sum(gluing, p):
    """Return the sum over all inner corners that rims tell by p."""
    return sum([2 * p - (p - 2) * len(corner) for corner in inner_corners(gluing)])


def worth_corners(gluing, p):
    """Return what corners_sum is if tiles have p sides on the whole."""
    return 2 * p * worth(gluing) - p * len(rim_sides(gluing)) + (p - 2) * _total(gluing)


def over_tiles(gluing, p):
    """Return by how many sides all tiles together go over p each."""
    return sum([size - p for size in gluing[0]])


def corners_gap(gluing, p):
    """Return corners_sum less worth_corners."""
    return corners_sum(gluing, p) - worth_corners(gluing, p)


def rim_sum(q, word):
    """Return what tiles_sum is for a disc with this rim word."""
    return 2 * q - q * len(word) + 2 * sum(word)


def rim_corners_sum(p, word):
    """Return what corners_sum is for a disc with this rim word and tiles of p sides."""
    return 2 * p - p * len(word) + (p - 2) * sum(word)


def rim_length(p, n, v):
    """Return the rim's length of a disc of n tiles of p sides with v inner corners."""
    return p * n - 2 * (n - 1 + v)


def _total(gluing):
    """Return the sum of the letters of all rim corners."""
    return sum([len(corner) for corner in rim_corners(gluing)])
