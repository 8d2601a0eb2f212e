"""Deeds: what is done to a shelf of gluings and words, and deeds as texts."""

from whatrims.closed import glued
from whatrims.coils import coil
from whatrims.duals import dual
from whatrims.errors import BadDeed, BadText, TooMany
from whatrims.filling import fill
from whatrims.gluings import is_side, mate_of, mirrored, one_tile
from whatrims.laying import laid
from whatrims.parts import (MOST_TILES, NAMES, are_parts, check_names, is_kept_gluing, is_kept_word, part_text,
                            read_parts)
from whatrims.pieces import is_disc, is_of
from whatrims.plain import is_pair
from whatrims.rims import rim_word
from whatrims.rings import ringed
from whatrims.taking import taken, takers

# By the word of a deed: the kinds of its other parts.
DEEDS = {
    "gluing": ("name", "gluing"),
    "word": ("name", "word"),
    "tile": ("name", "s"),
    "lay": ("name", "one", "side", "k", "s"),
    "take": ("name", "one", "t"),
    "ring": ("name", "one", "p", "q", "side"),
    "coil": ("name", "p", "q", "n"),
    "fill": ("name", "one", "p", "q"),
    "glue": ("name", "one", "side", "other", "mate", "q"),
    "mirror": ("name", "one"),
    "dual": ("name", "one"),
    "rim": ("name", "one", "side"),
    "away": ("name",),
}

MOST_THINGS = 12
LEAST_RIM_WORD = 3

# Where (p - 2) (q - 2) is less, there are no rings.
LEAST_PRODUCT = 4


def is_thing(value):
    """Return whether any value is a thing."""
    if not is_pair(value):
        return False
    if value[0] == "gluing":
        return is_kept_gluing(value[1])
    return value[0] == "word" and is_kept_word(value[1])


def thing_text(thing):
    """Return the text of a thing."""
    kind, value = thing
    return part_text(kind, value)


def thing_of(shelf, name, word):
    """Return the gluing, or the word, that a name stands for, BadDeed if it is none."""
    kind, value = shelf[name]
    if kind != word:
        raise BadDeed()
    return value


def after(shelf, deed):
    """Return the shelf behind any deed, an error if it cannot be done."""
    if not _is_deed(deed):
        raise BadDeed()
    word = deed[0]
    parts = {kind: part for kind, part in zip(DEEDS[word], deed[1:])}
    names = [parts[kind] for kind in NAMES if kind in parts]
    check_names(names, names if word == "away" else names[1:], shelf)
    found = {name: shelf[name] for name in shelf}
    if word == "away":
        del found[names[0]]
        return found
    if word == "word" or word == "rim":
        found[names[0]] = ("word", _word_made(shelf, parts))
    else:
        found[names[0]] = ("gluing", _gluing_made(shelf, word, parts))
    if len(found) > MOST_THINGS:
        raise TooMany()
    return found


def _is_deed(value):
    if not isinstance(value, tuple) or value == () or not isinstance(value[0], str) or value[0] not in DEEDS:
        return False
    return are_parts(DEEDS[value[0]], value[1:])


def _word_made(shelf, parts):
    if "word" in parts:
        return parts["word"]
    gluing, side = gluing_with_side(shelf, parts["one"], parts["side"])
    word = rim_word(gluing, side)
    if not is_kept_word(word):
        raise BadDeed()
    return word


def gluing_with_side(shelf, name, side):
    """Return the gluing that a name stands for, and a rim side of it, BadDeed if they are none."""
    gluing = thing_of(shelf, name, "gluing")
    if not is_side(gluing, side) or mate_of(gluing, side) is not None:
        raise BadDeed()
    return gluing, side


def _gluing_made(shelf, word, parts):
    """Return the gluing that a deed makes, TooMany if it has too many tiles."""
    if word == "gluing":
        gluing = parts["gluing"]
    elif word == "tile":
        gluing = one_tile(parts["s"])
    elif word == "coil":
        gluing = _coiled(parts["p"], parts["q"], parts["n"])
    elif word == "fill":
        gluing = _filled(thing_of(shelf, parts["one"], "word"), parts["p"], parts["q"])
    elif "side" in parts:
        gluing = _made_at_rim(shelf, word, parts)
    else:
        gluing = _changed(thing_of(shelf, parts["one"], "gluing"), word, parts)
    if len(gluing[0]) > MOST_TILES:
        raise TooMany()
    return gluing


def _coiled(p, q, n):
    if not _has_rings(p, q):
        raise BadDeed()
    return coil(p, q, n)


def _has_rings(p, q):
    return (p - 2) * (q - 2) >= LEAST_PRODUCT


def _filled(word, p, q):
    if max(word) >= q:
        raise BadDeed()
    told = fill(p, q, word)
    if told[0] == "barred":
        raise BadDeed()
    return told[1]


def _made_at_rim(shelf, word, parts):
    """Return the gluing that is made by laying, by a ring, or by gluing two."""
    gluing, side = gluing_with_side(shelf, parts["one"], parts["side"])
    if word == "lay":
        k, s = parts["k"], parts["s"]
        if k >= s or k >= len(rim_word(gluing, side)):
            raise BadDeed()
        return laid(gluing, side, k, s)
    q = parts["q"]
    if word == "ring":
        p = parts["p"]
        if not _has_rings(p, q) or not is_of(gluing, p, q) or len(rim_word(gluing, side)) < LEAST_RIM_WORD:
            raise BadDeed()
        return ringed(gluing, p, q, side)
    other, mate = gluing_with_side(shelf, parts["other"], parts["mate"])
    if not is_disc(gluing) or not is_disc(other):
        raise BadDeed()
    return glued(gluing, side, other, mate, q)


def _changed(gluing, word, parts):
    """Return what a gluing is, mirrored, without a tile, or as its dual."""
    if word == "mirror":
        return mirrored(gluing)
    if word == "take":
        if not is_disc(gluing) or parts["t"] not in takers(gluing):
            raise BadDeed()
        return taken(gluing, parts["t"])
    found = dual(gluing)
    if found is None:
        raise BadDeed()
    return found


def deed_text(deed):
    """Return the text of a deed whose names are names."""
    told = [part_text(kind, part) for kind, part in zip(DEEDS[deed[0]], deed[1:])]
    return " ".join([deed[0], *told])


def read_deed(text):
    """Return the deed that has this text, any value, BadText(0) if there is none."""
    if not isinstance(text, str):
        raise BadText(0)
    words = text.split(" ")
    if words[0] == "gluing" or words[0] == "word":
        # Their last parts have blanks of their own.
        words = text.split(" ", 2)
    parts = None
    if words[0] in DEEDS:
        parts = read_parts(DEEDS[words[0]], words[1:])
    if parts is None:
        raise BadText(0)
    return (words[0], *parts)
