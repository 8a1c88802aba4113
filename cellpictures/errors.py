"""The errors that the package raises."""


class PictureError(ValueError):
    """What all errors of the package are."""


class InvalidNumber(PictureError):
    """A thing is not a number that may stand there."""

    def __init__(self, thing):
        self.thing = thing


class InvalidWay(PictureError):
    """A thing is not a way, an integer from 0 to 7."""

    def __init__(self, thing):
        self.thing = thing


class InvalidCondition(PictureError):
    """The condition at a place is none, or, with None, there are not eight of them."""

    def __init__(self, place):
        self.place = place


class InvalidPicture(PictureError):
    """A thing is not a picture."""

    def __init__(self, thing):
        self.thing = thing


class InvalidWays(PictureError):
    """A thing is not a list of different ways."""

    def __init__(self, thing):
        self.thing = thing


class InvalidRules(PictureError):
    """The rule at a place does not fit the book, or, with None, there is no list of them."""

    def __init__(self, place):
        self.place = place


class InvalidLasts(PictureError):
    """The last picture at a place is none, or, with None, there is not one for each kind."""

    def __init__(self, place):
        self.place = place


class InvalidSymmetries(PictureError):
    """The symmetries of a name are none, or, with None, there is no dict of them."""

    def __init__(self, name):
        self.name = name


class InvalidBook(PictureError):
    """A thing is not a book."""

    def __init__(self, thing):
        self.thing = thing


class InvalidMap(PictureError):
    """A thing is not a map."""

    def __init__(self, thing):
        self.thing = thing


class InvalidEnds(PictureError):
    """A thing is not the ends of a map, or not such as are wanted."""

    def __init__(self, thing):
        self.thing = thing


class InvalidCell(PictureError):
    """A thing is not a row or a column of the map."""

    def __init__(self, thing):
        self.thing = thing


class InvalidSigns(PictureError):
    """The signs of a name are none, or missing, or, with None, there is no dict of them."""

    def __init__(self, name):
        self.name = name


class InvalidSide(PictureError):
    """A thing is not a side of a name."""

    def __init__(self, thing):
        self.thing = thing


class InvalidDrawing(PictureError):
    """A thing is not a drawing."""

    def __init__(self, thing):
        self.thing = thing


class UnlikeBooks(PictureError):
    """Two books cannot be joined or compared."""


class MissingPicture(PictureError):
    """A picture is missing on some map."""


class NothingDone(PictureError):
    """There is no change to take back."""
