"""Lines of ATOMs in a heap, which grow at the end and shrink at the beginning."""

# A line consists of parts that name each other; each has the REF of the next one, then its ATOMs.
PART_SIZE = 8

# Where the four ATOMs of a line stand in its object, from the line's own place on.
TAKEN = 0
ADDED = 1
FIRST = 2
LAST = 3

# The four ATOMs of a line to which nothing was added.
EMPTY_LINE = (0, 0, None, None)


class Line:
    """The line whose four ATOMs stand in an object from a place on. The line itself keeps nothing."""

    def __init__(self, heap, ref, place):
        self._heap = heap
        self._ref = ref
        self._place = place

    def _get(self, part):
        return self._heap.get(self._ref, self._place + part)

    def _put(self, part, atom):
        self._heap.put(self._ref, self._place + part, atom)

    def added(self):
        """How many ATOMs were ever added."""
        return self._get(ADDED)

    def taken(self):
        """How many of them were taken."""
        return self._get(TAKEN)

    def add(self, atom):
        """Adds an ATOM at the end."""
        at = self.added()
        # The k-th ATOM that was ever added stands at the place of k in its part.
        if at % PART_SIZE == 0 or self._get(LAST) is None:
            self._add_part()
        self._heap.put(self._get(LAST), 1 + at % PART_SIZE, atom)
        self._put(ADDED, at + 1)

    def _add_part(self):
        part = self._heap.make("part", [None] * (1 + PART_SIZE))
        last = self._get(LAST)
        if last is None:
            self._put(FIRST, part)
        else:
            self._heap.put(last, 0, part)
        self._put(LAST, part)

    def take(self):
        """Takes the first ATOM, which there must be; returns it."""
        at = self.taken()
        atom = self._heap.get(self._get(FIRST), 1 + at % PART_SIZE)
        self._put(TAKEN, at + 1)
        if (at + 1) % PART_SIZE == 0 or at + 1 == self.added():
            self._drop_part()
        return atom

    def _drop_part(self):
        part = self._get(FIRST)
        after = self._heap.get(part, 0)
        self._put(FIRST, after)
        if after is None:
            self._put(LAST, None)
        self._heap.free(part)

    def rest(self):
        """The list of the ATOMs that were added and not taken."""
        atoms = []
        part = self._get(FIRST)
        while part is not None:
            row = self._heap.atoms(part)
            part = row[0]
            atoms.extend(row[1:])
        low = self.taken() % PART_SIZE
        return atoms[low:low + self.added() - self.taken()]
