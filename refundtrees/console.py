"""A player behind lines of words, each of which is answered by a text."""

from refundtrees.builds import build_of
from refundtrees.errors import NoNote, TreeError
from refundtrees.live import Player
from refundtrees.notes import read_book, write_build
from refundtrees.prices import least_price
from refundtrees.words import is_word

DONE = "ok"
ERROR = "error"
UNKNOWN = "unknown"

# The lines that ask for a player, by their first words: how many skills stand
# behind them. Only price is not among them, behind which any number may stand.
PLAYED = {"take": 1, "give": 1, "reset": 0, "undo": 0, "build": 0, "asks": 0, "spent": 0}


class Console:
    """Keeps rows of a book, and a player of the book that they wrote when it began."""

    def __init__(self):
        self._rows = []
        self._book = None
        self._player = None

    def run(self, line):
        """The answer to a line."""
        if not isinstance(line, str):
            raise NoNote(None)
        if "\n" in line:
            return UNKNOWN
        if line.startswith("+"):
            self._rows.append(line[1:])
            return DONE
        if line == "clear":
            return self._clear()
        if line == "begin":
            return self._begin()
        words = line.split(" ")
        return self._answer(words) if is_played(words) else UNKNOWN

    def _clear(self):
        self._rows = []
        self._book = self._player = None
        return DONE

    def _begin(self):
        try:
            book = read_book("".join([row + "\n" for row in self._rows]))
        except NoNote:
            return ERROR
        # No line changes the book of a player: it stays the one that is kept here.
        self._book = book
        self._player = Player(book)
        return DONE

    def _answer(self, words):
        if self._player is None:
            return ERROR
        try:
            return self._reply(words[0], words[1:])
        except TreeError:
            return ERROR

    def _reply(self, word, skills):
        if word == "build":
            return write_build(self._player.now())
        if word == "asks":
            return " ".join(["-".join(step) for step in self._player.asks()]) or "none"
        if word == "spent":
            return str(self._player.spent())
        if word == "price":
            return self._price([] if skills == ["-"] else skills)
        self._do(word, skills)
        return DONE

    def _price(self, skills):
        price = least_price(self._book, self._player.now(), build_of(self._book, skills))
        return "never" if price is None else str(price)

    def _do(self, word, skills):
        if word == "take":
            self._player.take(skills[0])
        elif word == "give":
            self._player.give(skills[0])
        elif word == "reset":
            self._player.restart()
        else:
            self._player.undo()


def is_played(words):
    """Whether the words of a line are of one of the forms that ask for a player."""
    skills = words[1:]
    if words == ["price", "-"]:
        return True
    if not all([is_word(skill) for skill in skills]):
        return False
    if words[0] == "price":
        return len(skills) > 0
    return words[0] in PLAYED and len(skills) == PLAYED[words[0]]
