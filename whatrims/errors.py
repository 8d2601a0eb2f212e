"""All errors of the package."""

from whatrims.plain import copied

# Each error with an argument gives its base a text of its own: else Python
# would keep the very thing that was passed, not a copy, among the args.


class RimError(ValueError):
    """What was passed cannot be read, or cannot be done."""


class Missing(LookupError):
    """What was asked for is not there."""


class TooMany(RimError):
    """There would be more of something than there may be."""


class BadDeed(RimError):
    """A deed or a question that is none, or that cannot be done here."""


class NothingDone(RimError):
    """There is nothing to undo, to redo or to merge."""


class BadText(RimError):
    """A text that is none, from the character number place on."""

    def __init__(self, place):
        super().__init__(f"the text cannot be read from character {place!r} on")
        self.place = copied(place)


class NotLaid(RimError):
    """An entry of layings, by its number, that cannot be laid."""

    def __init__(self, number):
        super().__init__(f"the tile of entry {number!r} cannot be laid")
        self.number = copied(number)


class NoRing(RimError):
    """A rim about which no ring lies, and where on it this shows."""

    def __init__(self, place):
        super().__init__(f"no ring lies about this rim, as place {place!r} shows")
        self.place = copied(place)


class NotGlued(RimError):
    """Rims that cannot be glued, and the number of the corner that shows it."""

    def __init__(self, number):
        super().__init__(f"these rims cannot be glued, as corner {number!r} shows")
        self.number = copied(number)


class BadName(RimError):
    """What should be a name, and is none or cannot be one here."""

    def __init__(self, name):
        super().__init__(f"this cannot be a name here: {name!r}")
        self.name = copied(name)


class Clash(RimError):
    """The names that two branches have changed in unlike ways."""

    def __init__(self, names):
        super().__init__(f"changed on both hands, in unlike ways: {names!r}")
        self.names = copied(names)


class UnknownName(Missing):
    """A name that stands for nothing here."""

    def __init__(self, name):
        super().__init__(f"there is nothing of this name: {name!r}")
        self.name = copied(name)


class NoMoment(Missing):
    """A number that is that of no moment."""

    def __init__(self, number):
        super().__init__(f"there is no moment of this number: {number!r}")
        self.number = copied(number)
