"""The errors of the package: each keeps the argument that it is made of, any value."""


class TreeError(ValueError):
    """What all errors of this package have in common."""


class NoBook(TreeError):
    """A parameter of a book is wrong; part is the name of the first one."""

    def __init__(self, part):
        self.part = part


class NoSkill(TreeError):
    """A value is no skill of the book, or not the names that were asked for."""

    def __init__(self, skill):
        self.skill = skill


class NoBuild(TreeError):
    """A value is no build of the book, or none that may stand there."""

    def __init__(self, build):
        self.build = build


class NoStep(TreeError):
    """A value is no step that is possible."""

    def __init__(self, step):
        self.step = step


class NoWay(TreeError):
    """A way stops at a step, or there is none, or there is one that should not be."""

    def __init__(self, index):
        self.index = index


class NoPlain(TreeError):
    """A book is not as plain, or as bare, as it has to be."""

    def __init__(self, book):
        self.book = book


class NoNumber(TreeError):
    """A value is no number that may stand there."""

    def __init__(self, value):
        self.value = value


class NoWish(TreeError):
    """A value is not the wishes that were asked for."""

    def __init__(self, wishes):
        self.wishes = wishes


class NoWorth(TreeError):
    """A value is no dict of worths."""

    def __init__(self, worths):
        self.worths = worths


class NoSeen(TreeError):
    """A value is not what was let."""

    def __init__(self, seen):
        self.seen = seen


class NoKind(TreeError):
    """A value is no kind of carrying over."""

    def __init__(self, kind):
        self.kind = kind


class NothingBack(TreeError):
    """There are not so many steps to take back."""

    def __init__(self, many):
        self.many = many


class NoNote(TreeError):
    """A text or a value is not written as a note."""

    def __init__(self, line):
        self.line = line
