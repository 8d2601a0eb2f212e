"""A house of shelves: moments, branches, and papers about what was asked."""

from whatrims.deeds import after, thing_of
from whatrims.drawn import size_of
from whatrims.errors import BadDeed, BadName, Clash, Missing, NoMoment, NothingDone, RimError, TooMany, UnknownName
from whatrims.filling import fill, judge_fill
from whatrims.forms import judge_likening, likening
from whatrims.parts import are_parts, check_names, is_name
from whatrims.pieces import is_disc, kind_fault, pieces
from whatrims.plain import is_number
from whatrims.taking import judge_layings, layings_of

# By the word of a question: the kinds of its other parts.
QUESTIONS = {
    "size": ("p", "q", "name"),
    "fill": ("p", "q", "name"),
    "kind": ("p", "q", "name"),
    "like": ("name", "other"),
    "layings": ("name",),
}

FIRST_BRANCH = "main"
MOST_MOMENTS = 200
MOST_BRANCHES = 6
MOST_PAPERS = 8
MOST_THINGS = 12


class House:
    """Moments with shelves, branches that go from one to the next, and papers kept by labels."""

    def __init__(self):
        # By the number of a moment: its shelf, and the tuple of its elders.
        self._shelves = [{}]
        self._elders = [()]
        # By the name of a branch: its moment, and the list of its undone moments.
        self._moments = {FIRST_BRANCH: 0}
        self._undone = {FIRST_BRANCH: []}
        self._present = FIRST_BRANCH
        # By labels: questions, answers, and the numbers of the moments at which they were kept.
        self._papers = {}

    def number(self):
        """Return the number of the present moment."""
        return self._moments[self._present]

    def shelf(self):
        """Return the shelf of the present moment."""
        return self.shelf_at(self.number())

    def shelf_at(self, number):
        """Return the shelf of a moment, NoMoment if there is none of this number, any value."""
        self._check_moment(number)
        return dict(self._shelves[number])

    def elders(self, number):
        """Return the elders of a moment, NoMoment if there is none of this number, any value."""
        self._check_moment(number)
        return self._elders[number]

    def _check_moment(self, number):
        if not is_number(number) or not 0 <= number < len(self._shelves):
            raise NoMoment(number)

    def branches(self):
        """Return the list of the names of the branches, as they came."""
        return list(self._moments)

    def present(self):
        """Return the name of the present branch."""
        return self._present

    def do(self, deed):
        """Do any deed, and return the number of the new moment."""
        shelf = after(self._shelves[self.number()], deed)
        return self._go_on(shelf, (self.number(),))

    def _go_on(self, shelf, elders):
        """Take the present branch to a new moment, and return its number."""
        if len(self._shelves) >= MOST_MOMENTS:
            raise TooMany()
        self._shelves.append(shelf)
        self._elders.append(elders)
        self._moments[self._present] = len(self._shelves) - 1
        self._undone[self._present] = []
        return self.number()

    def undo(self):
        """Go back to the first elder of the present moment, and return its number."""
        elders = self._elders[self.number()]
        if elders == ():
            raise NothingDone()
        self._undone[self._present].append(self.number())
        self._moments[self._present] = elders[0]
        return self.number()

    def redo(self):
        """Go to the moment that was undone last, and return its number."""
        if not self._undone[self._present]:
            raise NothingDone()
        self._moments[self._present] = self._undone[self._present].pop()
        return self.number()

    def branch(self, name):
        """Make a new branch at the present moment; name is any value."""
        if not is_name(name) or name in self._moments:
            raise BadName(name)
        if len(self._moments) >= MOST_BRANCHES:
            raise TooMany()
        self._moments[name] = self.number()
        self._undone[name] = []

    def go(self, name):
        """Make a branch, its name being any value, the present one, and return the number of its moment."""
        self._check_branch(name)
        self._present = name
        return self.number()

    def _check_branch(self, name):
        if not is_name(name) or name not in self._moments:
            raise UnknownName(name)

    def merge(self, name):
        """Put what was changed in a branch, its name being any value, to the present one: return the new moment."""
        self._check_branch(name)
        one, other = self.number(), self._moments[name]
        base = self.common(one, other)
        if base == other:
            raise NothingDone()
        shelf = _merged(self._shelves[base], self._shelves[one], self._shelves[other])
        return self._go_on(shelf, (one, other))

    def common(self, one, other):
        """Return the greatest number of a moment that both of two moments have behind them."""
        behind = self._behind(other)
        return max([number for number in self._behind(one) if number in behind])

    def _behind(self, number):
        """Return the dict that has True for each moment that a moment has behind it."""
        found = {number: True}
        # Elders have lesser numbers.
        for each in range(number, -1, -1):
            if each in found:
                for elder in self._elders[each]:
                    found[elder] = True
        return found

    def ask(self, question):
        """Return the answer to any question about the present shelf, an error if there is none."""
        shelf = self._shelves[self.number()]
        _check_question(shelf, question)
        return _answer(question, _things_asked(shelf, question))

    def keep(self, label, question):
        """Ask any question, keep question and answer by any label, and return the answer."""
        if not is_name(label) or label in self._papers:
            raise BadName(label)
        answer = self.ask(question)
        if len(self._papers) >= MOST_PAPERS:
            raise TooMany()
        self._papers[label] = (question, answer, self.number())
        return answer

    def labels(self):
        """Return the ascending list of the labels."""
        return sorted(self._papers)

    def paper(self, label):
        """Return the question, the answer and the number of the moment that are kept by a label, any value."""
        if not is_name(label) or label not in self._papers:
            raise UnknownName(label)
        return self._papers[label]

    def today(self, label):
        """Return None if what is kept by a label, any value, is still right, else what is wrong with it."""
        question, kept, _ = self.paper(label)
        try:
            answer = self.ask(question)
        except (RimError, Missing):
            return ("gone",)
        if question[0] == "size" or question[0] == "kind":
            return None if answer == kept else ("answer", answer)
        return _judged(question, _things_asked(self._shelves[self.number()], question), kept)


def _merged(base, shelf, other):
    """Return the shelf with what is changed from base to other, Clash if it is changed in the shelf, too."""
    changed = [name for name in sorted({**base, **other}) if other.get(name) != base.get(name)]
    clashes = []
    for name in changed:
        if shelf.get(name) != base.get(name) and shelf.get(name) != other.get(name):
            clashes.append(name)
    if clashes:
        raise Clash(tuple(clashes))
    merged = {name: shelf[name] for name in shelf if name not in changed}
    for name in changed:
        if name in other:
            merged[name] = other[name]
    if len(merged) > MOST_THINGS:
        raise TooMany()
    return merged


def _check_question(shelf, value):
    """Raise an error if any value is no question, or one about names that are not in the shelf."""
    if not isinstance(value, tuple) or value == () or not isinstance(value[0], str) or value[0] not in QUESTIONS:
        raise BadDeed()
    kinds = QUESTIONS[value[0]]
    if not are_parts(kinds, value[1:]):
        raise BadDeed()
    names = _names_asked(value)
    check_names(names, names, shelf)


def _names_asked(question):
    return [part for kind, part in zip(QUESTIONS[question[0]], question[1:]) if kind == "name" or kind == "other"]


def _things_asked(shelf, question):
    """Return the list of the words or gluings that a question is about, BadDeed if they are not as they must be."""
    word = question[0]
    kind = "word" if word == "size" or word == "fill" else "gluing"
    things = [thing_of(shelf, name, kind) for name in _names_asked(question)]
    if kind == "word" and max(things[0]) >= question[2]:
        raise BadDeed()
    if word == "like" and not all([len(pieces(gluing)) == 1 for gluing in things]):
        raise BadDeed()
    if word == "layings" and not is_disc(things[0]):
        raise BadDeed()
    return things


def _answer(question, things):
    word = question[0]
    if word == "like":
        return likening(things[0], things[1])
    if word == "layings":
        return layings_of(things[0])
    _, p, q, _ = question
    if word == "kind":
        return kind_fault(things[0], p, q)
    return size_of(p, q, things[0]) if word == "size" else fill(p, q, things[0])


def _judged(question, things, kept):
    """Return what the judge of a question tells of an answer."""
    if question[0] == "like":
        return judge_likening(things[0], things[1], kept)
    if question[0] == "layings":
        return judge_layings(things[0], kept)
    return judge_fill(question[1], question[2], things[0], kept)
