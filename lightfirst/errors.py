"""The errors of Lightfirst, all below KeepError."""


class KeepError(ValueError):
    """What all errors of Lightfirst are; those without fields are made with nothing."""

    def __init__(self):
        pass


class NoPrime(KeepError):
    """What should be a prime from 2 to 251 is none."""


class NoSums(KeepError):
    """What should be a tuple of sums of one width is none."""


class NoSum(KeepError):
    """What should be a sum of the width that is wanted is none."""


class BadWeb(KeepError):
    """No web can be made: part tells which argument, or which piece, is wrong."""

    def __init__(self, part):
        self.part = part


class NoLot(KeepError):
    """What should be a lot of the web's pieces is none."""


class NoVersion(KeepError):
    """What should be the number of a version is none."""


class NoKeeping(KeepError):
    """What should be a keeping is none."""


class NotAlone(KeepError):
    """A lot that should be lean is not."""


class NoPiece(KeepError):
    """What should be the number of a fitting piece is none."""


class NoRing(KeepError):
    """A lot that should be a ring is none."""


class NoCut(KeepError):
    """A lot that should be a cut is none."""


class TooMany(KeepError):
    """There is more to go through than most."""

    def __init__(self, most):
        self.most = most


class NoPlan(KeepError):
    """What should be a plan is none: number tells the first item that is no step, or is -1."""

    def __init__(self, number):
        self.number = number


class Undone(KeepError):
    """The step of this number can't be done."""

    def __init__(self, number):
        self.number = number


class BadPlan(KeepError):
    """What should be a plan, of whatever web, is none."""


class NoNumber(KeepError):
    """What should be a number within its limits is none."""


class NoRoom(KeepError):
    """There is less room than least, which is needed."""

    def __init__(self, least):
        self.least = least


class NoSome(KeepError):
    """What should be the lot of the pieces that may be used is none."""


class NoStay(KeepError):
    """What should be the lot of the pieces that have to stay is none."""


class NoTour(KeepError):
    """What should be a tour is none: number tells the first that is no keeping, or is -1."""

    def __init__(self, number):
        self.number = number


class NoRows(KeepError):
    """What should be the rows of the versions is none."""


class NoContents(KeepError):
    """What should be contents is none."""


class BadDisk(KeepError):
    """No disk can be made of so many cells."""


class NoCell(KeepError):
    """What should be the number of a cell is none."""


class NoThing(KeepError):
    """What should be a thing that a cell can hold is none."""


class NothingWaits(KeepError):
    """No write waits for the cell."""


class Stopped(KeepError):
    """The power has failed."""


class Spoilt(KeepError):
    """The content of this piece does not agree with the others."""

    def __init__(self, piece):
        self.piece = piece


class Unread(KeepError):
    """This version can't be read."""

    def __init__(self, version):
        self.version = version


class NoPlane(KeepError):
    """What should be a plane is none."""


class NoneSafe(KeepError):
    """No lot is as safe as is wanted."""


class BadText(KeepError):
    """The line of this number has not the form that it should have."""

    def __init__(self, line):
        self.line = line


class NoSaying(KeepError):
    """What should be a line for the desk is none."""


class NoTale(KeepError):
    """What should be a list or tuple of lines is none."""


class Broken(KeepError):
    """The house has lost a version."""
