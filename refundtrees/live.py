"""A player, who is led step by step, and may undo it."""

from refundtrees.books import Book
from refundtrees.carrying import carried, lost, must_be_kind
from refundtrees.errors import NoBook, NoBuild, NoNumber, NothingBack
from refundtrees.holding import behind, holds, price_of_step, steps
from refundtrees.parts import MOST_POINTS
from refundtrees.trials import Trial, tried_out
from refundtrees.words import is_number_in


class Player:
    """Someone who plays a book from the empty build on, and may go on with other books."""

    def __init__(self, book, *, carry="grown"):
        must_be_kind(carry)
        # How builds are carried over; book, build and price as they are now; and
        # these three as they were ahead of each deed. A tuple, and all that ever
        # changes: so a trial, or a twin, has to keep nothing else.
        self._state = (carry, (book, (), 0), ())

    @property
    def points(self):
        """The points of the book."""
        return self._state[1][0].points

    @property
    def carry(self):
        """The way in which builds are carried over to another book."""
        return self._state[0]

    def carry_by(self, carry):
        """Sets another way of carrying over from now on."""
        must_be_kind(carry)
        self._state = (carry,) + self._state[1:]

    def now(self):
        """The build."""
        return self._state[1][1]

    def spent(self):
        """The price of all so far."""
        return self._state[1][2]

    def asks(self):
        """The steps that are possible now."""
        book, build, _ = self._state[1]
        return list(steps(book, build))

    def take(self, skill):
        """Takes a skill."""
        self._step(("take", skill))

    def give(self, skill):
        """Gives a skill back."""
        self._step(("give", skill))

    def restart(self):
        """Does the reset."""
        self._step(("reset",))

    def raise_to(self, points):
        """Goes on with so many points, as many as there are or more."""
        book, build, spent = self._state[1]
        if not is_number_in(points, book.points, MOST_POINTS):
            raise NoNumber(points)
        self._go_on(book.changed(points=points), build, spent)

    def move_to(self, book):
        """Goes on with another book, returns the skills that go when the build is carried over."""
        if not isinstance(book, Book):
            raise NoBook("book")
        old, build, spent = self._state[1]
        kept = carried(old, book, build, self.carry)
        if not holds(book, kept):
            raise NoBuild(kept)
        gone = lost(old, book, build, self.carry)
        self._go_on(book, kept, spent)
        return gone

    def undo(self):
        """Takes the last deed back."""
        carry, _, ahead = self._state
        if not ahead:
            raise NothingBack(0)
        self._state = (carry, ahead[-1], ahead[:-1])

    def twin(self):
        """A player that tells the same, and goes on by itself."""
        other = Player(self._state[1][0])
        other._state = self._state
        return other

    def trial(self):
        """For `with`: gives this player, and takes back what was done in the block, unless it is kept."""
        return Trial(self)

    def trying(self, guest, *, kept=False):
        """What a guest returns that is called with this player within a trial, which is kept if kept is True."""
        return tried_out(self, guest, kept)

    def _step(self, step):
        book, build, spent = self._state[1]
        price = price_of_step(book, build, step)
        self._go_on(book, behind(book, build, step), spent + price)

    def _go_on(self, book, build, spent):
        carry, here, ahead = self._state
        self._state = (carry, (book, build, spent), ahead + (here,))

    def __len__(self):
        return len(self._state[2])
