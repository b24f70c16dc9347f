"""The log: RECORDs in a ring of blocks."""

from lastingrun.errors import Full, Gone, NoCut
from lastingrun.packing import packed, packs, unpacked


class Log:
    """The log in the blocks first, .., first + count - 1 of a disk, from block number block on."""

    def __init__(self, disk, first, count, block=0, record=0, floor=0):
        self._disk = disk
        self._first = first
        self._count = count
        # The first block and the first RECORD that are needed.
        self._low_block = block
        self._low = record
        self._next_block = block
        # The RECORDs from the first needed one on, and the number of the first that is in no block.
        self._records = []
        self._safe = record
        ring = [unpacked(disk.read(first + place)) for place in range(count)]
        self._read(ring, floor)
        epochs = [parts[1] for parts in ring if parts is not None]
        self._epoch = 1 + max([floor, *epochs])

    def _read(self, ring, floor):
        """Takes the longest row of blocks; the ring has what is in each of them, or None."""
        for _ in range(self._count):
            parts = ring[self._next_block % self._count]
            if parts is None:
                return
            number, epoch, first, records = parts
            if number != self._next_block or first != self._safe or epoch < floor:
                return
            floor = epoch
            self._next_block += 1
            self._safe += len(records)
            self._records.extend(records)

    def append(self, record):
        """Appends a RECORD, in memory only; returns its number."""
        self._records.append(tuple(record))
        return self.many() - 1

    def flush(self):
        """Writes the RECORDs that are only in memory, then a barrier. Raises Full(count)."""
        rows = packs(self.records(self._safe))
        if not rows:
            return
        if len(rows) > self.room():
            raise Full(self._count)
        for records in rows:
            place = self._first + self._next_block % self._count
            self._disk.write(place, packed(self._next_block, self._epoch, self._safe, records))
            self._next_block += 1
            self._safe += len(records)
        self._disk.barrier()

    def room(self):
        """How many blocks can be written before the next cut."""
        return self._count - (self._next_block - self._low_block)

    def records(self, number):
        """The list of the RECORDs from this number on. Raises Gone(number)."""
        if number < self._low or number > self.many():
            raise Gone(number)
        return self._records[number - self._low:]

    def many(self):
        """The number of the next RECORD."""
        return self._low + len(self._records)

    def safe(self):
        """The number of the first RECORD that is only in memory."""
        return self._safe

    def epoch(self):
        return self._epoch

    def next_block(self):
        """The number of the next block that is written."""
        return self._next_block

    def cut(self, block, record):
        """Makes the places of the blocks below this one free; the RECORDs below that one are not
        needed any more. Raises NoCut(block)."""
        if block < self._low_block or block > self._next_block:
            raise NoCut(block)
        self._records = self.records(record)
        self._low_block = block
        self._low = record
