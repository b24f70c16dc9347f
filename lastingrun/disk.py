"""A disk that may lose what was written since the last barrier."""

from lastingrun.copying import as_tuples
from lastingrun.errors import NoBlock, NoLoose, Stopped


class Disk:
    """A disk of so many blocks, all ()."""

    def __init__(self, size):
        self.hold([()] * size)
        self._writes = 0
        # How many more writes and barriers are done before the disk fails, or None.
        self._left = None

    def hold(self, blocks):
        """Replaces all blocks by these, which stay, without a write."""
        # What a crash leaves, and what is shown: that with the loose writes.
        self._lasting = list(blocks)
        self._shown = list(blocks)
        self._loose = []

    def size(self):
        """How many blocks there are."""
        return len(self._shown)

    def read(self, place):
        """The block at a place. Raises NoBlock(place)."""
        self._check_place(place)
        return self._shown[place]

    def write(self, place, block):
        """Replaces the block at a place. Raises NoBlock(place), then Stopped()."""
        self._check_place(place)
        self._count()
        copied = as_tuples(block)
        self._shown[place] = copied
        self._loose.append((place, copied))
        self._writes += 1

    def _check_place(self, place):
        if place < 0 or place >= len(self._shown):
            raise NoBlock(place)

    def _count(self):
        """Counts a write or a barrier, which is not done if the disk fails."""
        if self._left is not None:
            if self._left <= 0:
                raise Stopped()
            self._left -= 1

    def writes(self):
        """How many writes there were."""
        return self._writes

    def barrier(self):
        """Makes all writes so far stay for ever. Raises Stopped()."""
        self._count()
        self.hold(self._shown)

    def loose(self):
        """The list of the pairs (place, block) written since the last barrier, in order."""
        return list(self._loose)

    def fail_after(self, many):
        """Lets the disk fail after so many more writes and barriers."""
        self._left = many

    def crash(self, kept):
        """Lets the loose writes with these indices stay and takes away the others; the disk works
        again. Raises NoLoose(number)."""
        for index in kept:
            if index < 0 or index >= len(self._loose):
                raise NoLoose(index)
        for index in kept:
            place, block = self._loose[index]
            self._lasting[place] = block
        self.hold(self._lasting)
        self._left = None

    def image(self):
        """The tuple of the blocks shown."""
        return tuple(self._shown)


def disk_of(image):
    """A new disk with the blocks of an image, which stay."""
    disk = Disk(len(image))
    disk.hold(as_tuples(image))
    return disk
