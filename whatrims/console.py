"""A console: a house that is told what to do by lines."""

from whatrims.deeds import gluing_with_side, read_deed, thing_of, thing_text
from whatrims.errors import BadText, Missing, RimError, UnknownName
from whatrims.house import QUESTIONS, House
from whatrims.parts import is_name, read_parts
from whatrims.pieces import counts
from whatrims.rims import rim_word
from whatrims.texts import word_text

# By the first word of a line, but for questions and deeds: what can stand behind it.
LINES = {
    "undo": ((),),
    "redo": ((),),
    "branch": (("name",),),
    "go": (("name",),),
    "merge": (("name",),),
    "show": ((), ("name",)),
    "rim": (("name", "side"),),
    "counts": (("name",),),
    "today": (("name",),),
}


class Console:
    """What does what lines say, in a house of its own."""

    def __init__(self):
        self._house = House()

    def house(self):
        """Return the house, always the same one."""
        return self._house

    def say(self, line):
        """Do what a line, any value, says, and return the answer."""
        told = _read_line(line)
        if told is None:
            return "what"
        try:
            return self._answer(told)
        except (RimError, Missing):
            return "refused"

    def _answer(self, told):
        word = told[0]
        house = self._house
        if word in ("show", "rim", "counts"):
            return _shown(house.shelf(), told)
        if word in QUESTIONS:
            return _answer_told(told, house.ask(told))
        if word == "keep":
            _, label, question = told
            return _answer_told(question, house.keep(label, question))
        if word == "today":
            fault = house.today(told[1])
            return "right" if fault is None else fault[0]
        self._move(told)
        return str(house.number())

    def _move(self, told):
        house = self._house
        word = told[0]
        if word == "undo":
            house.undo()
        elif word == "redo":
            house.redo()
        elif word == "branch":
            house.branch(told[1])
        elif word == "go":
            house.go(told[1])
        elif word == "merge":
            house.merge(told[1])
        else:
            house.do(told[1])


def _read_line(line):
    """Return the tuple of a line's word and what stands behind it, None if any value is no line.

    A line that keeps a question is ("keep", label, question), a deed's is ("do", deed).
    """
    if not isinstance(line, str):
        return None
    words = line.split(" ")
    if words[0] == "keep":
        question = _read_question(words[2:])
        if question is None or not is_name(words[1]):
            return None
        return ("keep", words[1], question)
    for kinds in LINES.get(words[0], ()):
        parts = read_parts(kinds, words[1:])
        if parts is not None:
            return (words[0], *parts)
    question = _read_question(words)
    return _read_done(line) if question is None else question


def _read_question(words):
    """Return the question that these words tell, None if there is none."""
    if words == [] or words[0] not in QUESTIONS:
        return None
    parts = read_parts(QUESTIONS[words[0]], words[1:])
    return None if parts is None else (words[0], *parts)


def _read_done(line):
    try:
        return ("do", read_deed(line))
    except BadText:
        return None


def _shown(shelf, told):
    """Return what a line that shows something tells of a shelf."""
    if len(told) == 1:
        return " ".join(sorted(shelf))
    name = told[1]
    if name not in shelf:
        raise UnknownName(name)
    if told[0] == "show":
        return thing_text(shelf[name])
    if told[0] == "rim":
        gluing, side = gluing_with_side(shelf, name, told[2])
        return word_text(rim_word(gluing, side))
    return " ".join([str(number) for number in counts(thing_of(shelf, name, "gluing"))])


def _answer_told(question, answer):
    """Return the word or the number that tells the answer to a question."""
    if question[0] == "size":
        return str(answer[1]) if answer[0] == "size" else "none"
    if question[0] == "layings":
        return str(len(answer))
    return "yes" if answer is None else answer[0]
