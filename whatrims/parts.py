"""The parts of deeds, questions and lines, by their kinds: which values they can be, and their texts."""

from whatrims.errors import BadName, BadText, UnknownName
from whatrims.gluings import is_gluing
from whatrims.plain import is_number, is_pair
from whatrims.texts import gluing_text, read_gluing, read_word, word_text

NAMES = ("name", "one", "other")
SIDES = ("side", "mate")

# By the kinds that are integers: the least and the greatest one, None if there is no greatest.
LIMITS = {"s": (3, 24), "k": (1, None), "n": (1, 60), "p": (3, 12), "q": (3, 12), "t": (0, None)}

SIGNS = "abcdefghijklmnopqrstuvwxyz"
FIGURES = "0123456789"
MOST_SIGNS = 8
MOST_FIGURES = 9

MOST_TILES = 60
LEAST_LETTERS = 3
MOST_LETTERS = 16
GREATEST_LETTER = 11


def is_name(value):
    """Return whether any value is a name."""
    if not isinstance(value, str) or not 1 <= len(value) <= MOST_SIGNS:
        return False
    return all([sign in SIGNS for sign in value])


def is_kept_gluing(value):
    """Return whether any value is a gluing that a thing can be."""
    return is_gluing(value) and len(value[0]) <= MOST_TILES


def is_kept_word(value):
    """Return whether any value is a word that a thing can be."""
    if not isinstance(value, tuple) or not LEAST_LETTERS <= len(value) <= MOST_LETTERS:
        return False
    return all([is_number(letter) and 1 <= letter <= GREATEST_LETTER for letter in value])


def are_parts(kinds, values):
    """Return whether any values, in a tuple, can be parts of these kinds, names being looked at later."""
    return len(values) == len(kinds) and all([_is_part(kind, value) for kind, value in zip(kinds, values)])


def _is_part(kind, value):
    if kind in NAMES:
        return True
    if kind in SIDES:
        return is_pair(value) and all([is_number(number) and number >= 0 for number in value])
    if kind == "gluing":
        return is_kept_gluing(value)
    if kind == "word":
        return is_kept_word(value)
    least, greatest = LIMITS[kind]
    return is_number(value) and least <= value and (greatest is None or value <= greatest)


def check_names(names, asked, shelf):
    """Raise BadName for the first of the names that is none, else UnknownName for the first asked one not in the shelf.

    All that are asked for are among the names.
    """
    for name in names:
        if not is_name(name):
            raise BadName(name)
    for name in asked:
        if name not in shelf:
            raise UnknownName(name)


def part_text(kind, value):
    """Return the text of a part."""
    if kind in SIDES:
        return f"{value[0]}.{value[1]}"
    if kind == "gluing":
        return gluing_text(value)
    if kind == "word":
        return word_text(value)
    return str(value)


def read_parts(kinds, texts):
    """Return the tuple of the parts of these kinds that have these texts, None if one is none, names being names."""
    if len(texts) != len(kinds):
        return None
    parts = tuple([_read_part(kind, text) for kind, text in zip(kinds, texts)])
    names_right = all([is_name(part) for kind, part in zip(kinds, parts) if kind in NAMES])
    return parts if names_right and are_parts(kinds, parts) else None


def _read_part(kind, text):
    """Return the part with a text, None if there is none, or what can be none of this kind."""
    if kind in NAMES:
        return text
    if kind in SIDES:
        return tuple([_read_integer(figures) for figures in text.split(".")])
    if kind == "gluing" or kind == "word":
        return _read_thing(kind, text)
    return _read_integer(text)


def _read_thing(kind, text):
    try:
        return read_gluing(text) if kind == "gluing" else read_word(text)
    except BadText:
        return None


def _read_integer(text):
    """Return the integer with a text, None if there is none."""
    if not 1 <= len(text) <= MOST_FIGURES or not all([figure in FIGURES for figure in text]):
        return None
    if text[0] == "0" and text != "0":
        return None
    return int(text)
