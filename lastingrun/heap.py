"""Objects in a memory."""

from lastingrun.errors import NoObject, NoPlace


class Heap:
    """The objects in a memory: each a kind, the number of its ATOMs, and the ATOMs."""

    def __init__(self, memory):
        self._memory = memory
        # What is found out about the memory, as long as its puts are as many as then: the first
        # cells of the objects by their REFs, and how many cells each takes, by its first cell.
        self._cells = {}
        self._sizes = {}
        self._puts = None
        # Those who are told of every put and free.
        self._watchers = []

    def watch(self, watcher):
        """Tells this object from now on, just before: note_put(ref, atom), with the ATOM that is
        replaced, and note_free(ref)."""
        self._watchers.append(watcher)

    def _look(self):
        """Finds the objects if something else has changed the memory."""
        if self._puts == self._memory.puts():
            return
        self._cells = {}
        self._sizes = {}
        free = 0
        for cell in self._memory.filled():
            if cell >= free:
                self._add(cell, 2 + self._memory.get(cell + 1))
                free = cell + self._sizes[cell]
        self._puts = self._memory.puts()

    def _add(self, cell, size):
        self._cells[f"@{cell}"] = cell
        self._sizes[cell] = size

    def _write(self, cell, atoms):
        """Puts ATOMs into the cells from this one on; what is known of the objects stays true."""
        for place, atom in enumerate(atoms):
            self._memory.put(cell + place, atom)
        self._puts = self._memory.puts()

    def _cell(self, ref):
        """The first cell of an object. Raises NoObject(ref)."""
        self._look()
        if ref not in self._cells:
            raise NoObject(ref)
        return self._cells[ref]

    def _place_cell(self, ref, place):
        """The cell of an ATOM of an object. Raises NoObject(ref), then NoPlace(place)."""
        cell = self._cell(ref)
        if place < 0 or place >= self._sizes[cell] - 2:
            raise NoPlace(place)
        return cell + 2 + place

    def _lowest(self, size):
        """The lowest cell from which on so many cells are free."""
        low = 0
        for cell in sorted(self._sizes):
            if cell - low >= size:
                return low
            low = cell + self._sizes[cell]
        return low

    def make(self, kind, atoms):
        """Makes an object in the lowest place where enough cells are free; returns its REF."""
        self._look()
        size = 2 + len(atoms)
        cell = self._lowest(size)
        self._add(cell, size)
        self._write(cell, [kind, len(atoms), *atoms])
        return f"@{cell}"

    def kind(self, ref):
        """The kind of an object. Raises NoObject(ref)."""
        return self._memory.get(self._cell(ref))

    def atoms(self, ref):
        """The tuple of the ATOMs of an object. Raises NoObject(ref)."""
        cell = self._cell(ref)
        return tuple([self._memory.get(at) for at in range(cell + 2, cell + self._sizes[cell])])

    def get(self, ref, place):
        """An ATOM of an object. Raises NoObject(ref), then NoPlace(place)."""
        return self._memory.get(self._place_cell(ref, place))

    def put(self, ref, place, atom):
        """Replaces an ATOM of an object. Raises NoObject(ref), then NoPlace(place)."""
        cell = self._place_cell(ref, place)
        for watcher in self._watchers:
            watcher.note_put(ref, self._memory.get(cell))
        self._write(cell, [atom])

    def free(self, ref):
        """Puts None into the cells of an object. Raises NoObject(ref)."""
        cell = self._cell(ref)
        for watcher in self._watchers:
            watcher.note_free(ref)
        size = self._sizes[cell]
        del self._cells[ref]
        del self._sizes[cell]
        self._write(cell, [None] * size)

    def refs(self):
        """The list of the REFs of all objects, by ascending cells."""
        self._look()
        return [f"@{cell}" for cell in sorted(self._sizes)]
