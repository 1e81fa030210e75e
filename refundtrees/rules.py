"""The rules of a book over masks: builds as numbers, with one bit for each skill."""

# How many bits each number below 16 has: a mask of twelve skills is three such numbers.
BITS_OF = (0, 1, 1, 2, 1, 2, 2, 3, 1, 2, 2, 3, 2, 3, 3, 4)

# Among steps, which are told by the bits of their skills, the one that has none.
RESET = 0


def size_of(mask):
    """How many skills a mask has."""
    return BITS_OF[mask & 15] + BITS_OF[(mask >> 4) & 15] + BITS_OF[mask >> 8]


def sorted_masks(masks):
    """A list of masks in the order of builds: by their sizes, then by the places of their skills."""
    # Earlier skills have higher bits: of two masks of one size the greater one is ahead.
    return sorted(masks, key=lambda mask: (size_of(mask), -mask))


def many_wanted(want):
    """How many of its names a want asks for."""
    if want[0] == "all":
        return len(want[2])
    if want[0] == "any":
        return 1
    return want[3]


class Rules:
    """What a book asks of its builds, and the steps between them: builds that are handed in are right ones."""

    def __init__(self, book):
        self.book = book
        self.bits = tuple([1 << place for place in reversed(range(len(book)))])
        self._bit_by_name = dict(zip(book.names(), self.bits))
        self._name_by_bit = dict(zip(self.bits, book.names()))
        self._wanted = self._want_asks()
        self._asks = self._tier_asks() + self._wanted
        self._bars = [self.mask_of(bar) for bar in book.bars()]
        self._gives = [(self._bit_by_name[skill], points) for skill, points in book.gives()]

    def _tier_asks(self):
        """For each tier that needs some: ("tier", its skills, the skills of lower tiers, how many)."""
        asks = []
        for tier, need in self.book.needs():
            who = self.mask_of([name for name in self.book if self.book[name] == tier])
            whom = self.mask_of([name for name in self.book if self.book[name] < tier])
            asks.append(("tier", who, whom, need))
        return asks

    def _want_asks(self):
        """For each want: (its kind, its skill, its names, how many)."""
        wants = self.book.wants()
        return [(want[0], self._bit_by_name[want[1]], self.mask_of(want[2]), many_wanted(want)) for want in wants]

    def mask_of(self, names):
        """The mask of some unlike skills."""
        return sum([self._bit_by_name[name] for name in names])

    def build_of_mask(self, mask):
        """The build of a mask."""
        return tuple([self._name_by_bit[bit] for bit in self.bits if mask & bit])

    def unmet(self, mask, who):
        """The words, in order, of what some skills ask for and a mask does not have: "tier", kinds of wants."""
        return [word for word, one, whom, many in self._asks if one & who and size_of(mask & whom) < many]

    def barred(self, mask):
        """The first bar that has both of its skills in a mask, as a mask, or 0."""
        both = [bar for bar in self._bars if mask & bar == bar]
        return both[0] if both else 0

    def unmet_wants(self, mask):
        """The indexes of the wants of a mask's skills that it does not meet."""
        return [
            index for index, (_, one, whom, many) in enumerate(self._wanted)
            if one & mask and size_of(mask & whom) < many
        ]

    def points_let(self, mask):
        """The points of the book, and those that the skills of a mask give, for themselves too."""
        return self.book.points + sum([points for bit, points in self._gives if mask & bit])

    def is_good(self, mask):
        """Whether the build of a mask holds."""
        if size_of(mask) > self.points_let(mask) or self.barred(mask):
            return False
        return not self.unmet(mask, mask)

    def good_masks(self):
        """All masks whose builds hold, ascending: a mask stands behind those of its parts."""
        return [mask for mask in range(1 << len(self.bits)) if self.is_good(mask)]

    def takes_at(self, mask):
        """The bits of the skills that can be taken at a mask that holds, in order."""
        return [bit for bit in self.bits if not mask & bit and self.is_good(mask | bit)]

    def gives_at(self, mask):
        """The bits of the skills that can be given back at a mask that holds, in order."""
        return [bit for bit in self.bits if mask & bit and self.is_good(mask ^ bit)]

    def bits_at(self, mask):
        """The bits of all steps that are possible at a mask that holds: takes, gives, the reset."""
        resets = [RESET] if mask and self.book.reset is not None else []
        return self.takes_at(mask) + self.gives_at(mask) + resets

    def bit_of_step(self, mask, step):
        """The bit of a step, any value, or None if it is not possible at a mask that holds."""
        # Only texts are compared: another value may say that it is equal to anything.
        if not isinstance(step, tuple) or not all([isinstance(word, str) for word in step]):
            return None
        told = [bit for bit in self.bits_at(mask) if self.step_of_bit(mask, bit) == step]
        return told[0] if told else None

    def step_of_bit(self, mask, bit):
        """The step of a bit at a mask."""
        if bit == RESET:
            return ("reset",)
        return ("give" if mask & bit else "take", self._name_by_bit[bit])

    def price_of_bit(self, mask, bit):
        """What the step of a bit costs at a mask."""
        if bit == RESET:
            return self.book.reset
        return self.book.price_of(self._name_by_bit[bit]) if mask & bit else 0

    def behind_bit(self, mask, bit):
        """The mask behind the step of a bit at a mask."""
        return 0 if bit == RESET else mask ^ bit
