"""The store: the pages of memories in trees of blocks, one newest root for all of them."""

from lastingrun.errors import Busy, Full, Idle, NoRoot
from lastingrun.roots import depth_for, newest_root, root_block
from lastingrun.trees import Tree, read_tree


def make_store(disk, low, high, facts):
    """Makes a store without pages on a disk whose blocks 0 and 1 are ()."""
    disk.write(0, root_block(0, None, 0, 0, facts))
    disk.barrier()


class Snapshot:
    """What is known of an open snapshot: the memory, its pages to be written, and the new tree."""

    def __init__(self, memory, facts, tree, free):
        self.memory = memory
        self.facts = facts
        # The free places, the lowest last.
        self.free = list(reversed(free))
        changed = {number: True for number in memory.freeze()}
        many = memory.frozen_many()
        self.tree = Tree(depth_for(many), many)
        self.tree.levels[0] = {number: place for number, place in tree.levels[0].items() if number not in changed}
        # The numbers of the pages to be written, the next one last.
        self.rest = [number for number in changed if memory.frozen(number)]
        self.rest.reverse()


class Store:
    """The store in the blocks low, .., high - 1 of a disk, with its newest root. Raises NoRoot()."""

    def __init__(self, disk, low, high):
        parts = newest_root(disk)
        if parts is None:
            raise NoRoot()
        self._disk = disk
        self._low = low
        self._high = high
        self._number, top, depth, many, self._facts = parts
        self._tree = read_tree(disk, top, depth, many)
        # The open snapshot, or None.
        self._snapshot = None

    def newest(self):
        """The number of the newest root."""
        return self._number

    def facts(self):
        """The FACTS of the newest root."""
        return self._facts

    def many(self):
        """The number of pages of the newest root."""
        return self._tree.many

    def page(self, number):
        """A page of the newest root."""
        place = self._tree.place(0, number) if number < self.many() else None
        return () if place is None else self._disk.read(place)

    def begin(self, memory, facts):
        """Begins a snapshot of a memory whose base is the pages of the newest root. Raises Busy()."""
        if self._snapshot is not None:
            raise Busy()
        self._snapshot = Snapshot(memory, tuple(facts), self._tree, self.free())

    def step(self, count):
        """Writes up to so many of the pages; returns how many are left. Raises Full, Idle()."""
        self._need_snapshot()
        rest = self._snapshot.rest
        while count > 0 and rest:
            count -= 1
            number = rest[-1]
            self._snapshot.tree.levels[0][number] = self._write(self._snapshot.memory.frozen(number))
            rest.pop()
        return len(rest)

    def finish(self):
        """Writes the rest, the index blocks and the root; returns its number. Raises Full, Idle()."""
        self._need_snapshot()
        self.step(len(self._snapshot.rest))
        tree = self._snapshot.tree
        for level in range(1, tree.depth + 1):
            self._write_level(tree, level)
        number = self._number + 1
        self._disk.barrier()
        self._disk.write(number % 2, root_block(number, tree.top(), tree.depth, tree.many, self._snapshot.facts))
        self._disk.barrier()
        self._snapshot.memory.settle()
        self._number = number
        self._facts = self._snapshot.facts
        self._tree = tree
        self._snapshot = None
        return number

    def _write_level(self, tree, level):
        """Writes the index blocks of a level that the newest root does not have."""
        for part in tree.parts_above(level):
            block = tree.index(level, part)
            if block == self._tree.index(level, part):
                place = self._tree.place(level, part)
            else:
                place = self._write(block)
            tree.levels[level][part] = place

    def _write(self, block):
        """Writes a block into the lowest free place, which it returns. Raises Full, which gives the
        snapshot up."""
        if not self._snapshot.free:
            self._snapshot.memory.thaw()
            self._snapshot = None
            raise Full(self._high - self._low)
        place = self._snapshot.free.pop()
        self._disk.write(place, block)
        return place

    def _need_snapshot(self):
        if self._snapshot is None:
            raise Idle()

    def is_open(self):
        """Whether a snapshot is open."""
        return self._snapshot is not None

    def free(self):
        """The ascending list of the free places."""
        if self._snapshot is not None:
            return list(reversed(self._snapshot.free))
        used = self._tree.places()
        return [place for place in range(self._low, self._high) if place not in used]
