"""Notes: books and builds as rows of words, written and read back."""

from refundtrees.books import Book
from refundtrees.builds import is_build
from refundtrees.errors import NoBook, NoBuild, NoNote
from refundtrees.words import is_word

# By the first word of a row: where in the order such rows stand, and what
# stands behind the word, n for a number, w for a word, + for one or more words.
ROWS = {
    "points": (0, "n"),
    "skill": (1, "wn"),
    "need": (2, "nn"),
    "all": (3, "w+"),
    "any": (3, "w+"),
    "count": (3, "wn+"),
    "bar": (4, "ww"),
    "gives": (5, "wn"),
    "price": (6, "wn"),
    "reset": (7, "n"),
}
FIRST_SKILL = 1
LAST_ROW = 7

DIGITS = "0123456789"
MOST_DIGITS = 60


def write_book(book):
    """The rows of a book, each closed by a line feed."""
    if not isinstance(book, Book):
        raise NoNote(None)
    rows = [["points", book.points]]
    rows.extend([["skill", name, tier] for name, tier in book.skills()])
    rows.extend([["need", tier, need] for tier, need in book.needs()])
    rows.extend([row_of_want(want) for want in book.wants()])
    rows.extend([["bar", one, other] for one, other in book.bars()])
    rows.extend([["gives", skill, points] for skill, points in book.gives()])
    rows.extend([["price", skill, price] for skill, price in book.prices()])
    if book.reset is not None:
        rows.append(["reset", book.reset])
    return "".join([" ".join([str(word) for word in row]) + "\n" for row in rows])


def row_of_want(want):
    """The words and numbers of the row of a want."""
    if want[0] == "count":
        return ["count", want[1], want[3], *want[2]]
    return [want[0], want[1], *want[2]]


def read_book(text):
    """The book that a text writes; raises NoNote(None), NoNote(number of the row), NoNote(0) if it is no book."""
    if not isinstance(text, str) or not text.endswith("\n"):
        raise NoNote(None)
    rows = [line.split(" ") for line in text[:-1].split("\n")]
    place = -1
    for number, row in enumerate(rows, 1):
        if not is_row(row) or not may_follow(place, ROWS[row[0]][0]):
            raise NoNote(number)
        place = ROWS[row[0]][0]
    if place < FIRST_SKILL:
        raise NoNote(len(rows) + 1)
    try:
        return book_of_rows(rows)
    except NoBook as error:
        raise NoNote(0) from error


def is_row(row):
    """Whether the words of a row are of one of the forms."""
    if row[0] not in ROWS:
        return False
    form, words = ROWS[row[0]][1], row[1:]
    if form.endswith("+"):
        form = form[:-1] + "w" * max(1, len(words) - len(form) + 1)
    if len(form) != len(words):
        return False
    return all([is_decimal(word) if sign == "n" else is_word(word) for sign, word in zip(form, words)])


def may_follow(last, place):
    """Whether a row of one place in the order may stand behind one of another place, -1 for none."""
    if last < FIRST_SKILL:
        return place == last + 1
    return place > last or (place == last and place != LAST_ROW)


def is_decimal(word):
    """Whether a word is a decimal number without noughts ahead."""
    if word == "" or not all([sign in DIGITS for sign in word]):
        return False
    return word == "0" or not word.startswith("0")


def number_of_word(word):
    """The number that a decimal word writes."""
    # Python refuses to read thousands of digits. The first ones do as well:
    # what they write is too great for a book by far, too.
    return int(word[:MOST_DIGITS])


def book_of_rows(rows):
    """The book that right rows write; raises NoBook."""
    resets = numbers_of(rows, "reset")
    return Book(
        pairs_of(rows, "skill"),
        numbers_of(rows, "points")[0],
        needs=[(number_of_word(row[1]), number_of_word(row[2])) for row in rows if row[0] == "need"],
        wants=[want_of_row(row) for row in rows if row[0] in ("all", "any", "count")],
        bars=[(row[1], row[2]) for row in rows if row[0] == "bar"],
        gives=pairs_of(rows, "gives"),
        prices=pairs_of(rows, "price"),
        reset=resets[0] if resets else None,
    )


def numbers_of(rows, kind):
    """The numbers of the rows of a kind that have only one."""
    return [number_of_word(row[1]) for row in rows if row[0] == kind]


def pairs_of(rows, kind):
    """The pairs (word, number) of the rows of a kind that has such."""
    return [(row[1], number_of_word(row[2])) for row in rows if row[0] == kind]


def want_of_row(row):
    """The want that a row writes."""
    if row[0] == "count":
        return ("count", row[1], tuple(row[3:]), number_of_word(row[2]))
    return (row[0], row[1], tuple(row[2:]))


def write_build(build):
    """The skills of a build with blanks between, - for none."""
    if not isinstance(build, tuple) or not all([is_word(skill) for skill in build]):
        raise NoBuild(build)
    return " ".join(build) if build else "-"


def read_build(book, text):
    """The build of a book that any value writes, its skills in order; raises NoNote(text)."""
    if not isinstance(text, str):
        raise NoNote(text)
    build = () if text == "-" else tuple(text.split(" "))
    if not is_build(book, build):
        raise NoNote(text)
    return build
