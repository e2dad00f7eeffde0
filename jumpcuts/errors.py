"""All errors of the package."""


class CutError(ValueError):
    """The base class of all errors of the package."""


class BadFilm(CutError):
    """A value is no film: place is that of its first wrong sign, None for a wrong kind or size."""

    def __init__(self, place):
        super().__init__("no film")
        self.place = place


class BadPlace(CutError):
    """A value is no place of the film."""


class BadCuts(CutError):
    """A value is no row of cuts: index is that of its first wrong item, None for no tuple."""

    def __init__(self, index):
        super().__init__("no row of cuts")
        self.index = index


class BadNumber(CutError):
    """A number, a letter or the like is not one of those that are allowed."""


class TooLong(CutError):
    """Something is longer than an answer is promised for: most is what is allowed."""

    def __init__(self, most):
        super().__init__("too long")
        self.most = most


class BadFilms(CutError):
    """A value is no tuple of films of the size that is allowed."""


class BadWeb(CutError):
    """A value is no web: index is that of its first wrong item, None for no tuple."""

    def __init__(self, index):
        super().__init__("no web")
        self.index = index


class BadLetter(CutError):
    """A value is none of the letters a to h."""


class NoWalk(CutError):
    """A film is no walk in the web."""


class NoWay(CutError):
    """There is no walk of the kind that is asked for."""


class BadNames(CutError):
    """A value is no string of the eight letters in some order."""


class NotText(CutError):
    """A value is no string of the size that is allowed."""


class InvalidText(CutError):
    """A text cannot be read: place is that of the first sign that is wrong."""

    def __init__(self, place):
        super().__init__("invalid text")
        self.place = place


class BadGoal(CutError):
    """The film does not come to the goal."""


class CannotCut(CutError):
    """Two places of the film are no cut of it."""


class NothingToUndo(CutError):
    """There is no cut that could be taken back."""
