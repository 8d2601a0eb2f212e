"""Gluings and words as texts, and texts read back."""

from whatrims.errors import BadText
from whatrims.gluings import has_side, is_size

FIGURES = "0123456789"
MOST_FIGURES = 6


def gluing_text(gluing):
    """Return the text of a gluing."""
    sizes, ties = gluing
    if ties == ():
        return word_text(sizes)
    told = [f"{t}.{i}={u}.{j}" for (t, i), (u, j) in ties]
    return word_text(sizes) + ";" + " ".join(told)


def word_text(word):
    """Return the numbers of a word with one blank between two."""
    return " ".join([str(number) for number in word])


def read_gluing(text):
    """Return the gluing that has this text, BadText if there is none."""
    if not isinstance(text, str):
        raise BadText(0)
    sizes, place = _read_sizes(text)
    if place == len(text):
        return (sizes, ())
    return (sizes, _read_ties(text, _behind_sign(text, place, ";"), sizes))


def read_word(text):
    """Return the word that has this text, BadText if there is none."""
    if not isinstance(text, str):
        raise BadText(0)
    word = []
    place = 0
    while True:
        number, place = _read_number(text, place)
        if number == 0:
            raise BadText(place)
        word.append(number)
        if place == len(text):
            return tuple(word)
        place = _behind_sign(text, place, " ")


def _read_sizes(text):
    """Return the numbers of sides, and the place behind them."""
    sizes = []
    place = 0
    while True:
        size, place = _read_number(text, place)
        if not is_size(size):
            raise BadText(place)
        sizes.append(size)
        if not text.startswith(" ", place):
            return tuple(sizes), place
        place += 1


def _read_ties(text, place, sizes):
    """Return the ties from place on, which go to the end of the text."""
    ties = []
    sides = {}
    while True:
        one, place = _read_side(text, place, sizes)
        other, place = _read_side(text, _behind_sign(text, place, "="), sizes)
        if one >= other or one in sides or other in sides:
            raise BadText(place)
        if ties and one <= ties[-1][0]:
            raise BadText(place)
        ties.append((one, other))
        sides[one] = True
        sides[other] = True
        if place == len(text):
            return tuple(ties)
        place = _behind_sign(text, place, " ")


def _read_side(text, place, sizes):
    """Return the side that is told from place on, and the place behind it."""
    t, place = _read_number(text, place)
    i, place = _read_number(text, _behind_sign(text, place, "."))
    if not has_side(sizes, (t, i)):
        raise BadText(place)
    return (t, i), place


def _read_number(text, place):
    """Return the number that is told from place on, and the place behind it."""
    end = place
    while end < len(text) and text[end] in FIGURES and _may_go_on(text[place:end]):
        end += 1
    if end == place:
        raise BadText(place)
    return int(text[place:end]), end


def _may_go_on(figures):
    """Return whether one more figure can follow these."""
    return len(figures) < MOST_FIGURES and figures != "0"


def _behind_sign(text, place, sign):
    """Return the place behind the sign that must stand at place."""
    if not text.startswith(sign, place):
        raise BadText(place)
    return place + len(sign)
