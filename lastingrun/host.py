"""The host: a program that runs on a disk."""

from lastingrun.errors import Full, Gap, NoOutput, NoRoot
from lastingrun.limits import LOG_BLOCKS
from lastingrun.log import Log
from lastingrun.machine import Machine
from lastingrun.memory import Memory
from lastingrun.packing import packs
from lastingrun.store import Store, make_store
from lastingrun.text import read, write

# The first block of the log; the roots stand before it.
LOG_FIRST = 2

# The kinds of the RECORDs.
IN = "in"
CHANGE = "change"
FIXED = "fixed"


def store_first():
    """The first block of the store, which stands behind the log."""
    return LOG_FIRST + LOG_BLOCKS


def start(disk, text):
    """A new host on a disk whose blocks are all (). Raises BadText(at), Unsound(faults), Full."""
    memory = Memory()
    machine = Machine(memory, read(text))
    low = store_first()
    high = disk.size()
    if high <= low:
        raise Full(high - low)
    log = Log(disk, LOG_FIRST, LOG_BLOCKS)
    make_store(disk, low, high, (0, 0, log.epoch(), 0))
    host = Host(machine, Store(disk, low, high), log)
    host.snapshot()
    return host


def recover(disk):
    """The host that a disk holds. Raises NoRoot()."""
    store = Store(disk, store_first(), disk.size())
    if store.many() == 0:
        raise NoRoot()
    machine = Machine(Memory(tuple([store.page(number) for number in range(store.many())])))
    block, record, epoch, _ = store.facts()
    log = Log(disk, LOG_FIRST, LOG_BLOCKS, block, record, epoch)
    for row in log.records(record):
        replay(machine, row)
    return Host(machine, store, log)


def replay(machine, row):
    """Makes turns up to the number that a RECORD names, and applies its event, if the state does not
    have it already."""
    if is_known(machine, row):
        return
    make_turns(machine, row[1] - machine.turns())
    if row[0] == IN:
        machine.give(row[2], row[4])
    elif row[0] == CHANGE:
        machine.change(read(row[3]))


def is_known(machine, row):
    """Whether the state has the event of a RECORD already."""
    if row[0] == IN:
        return row[3] <= machine.given(row[2])
    return row[0] == CHANGE and row[2] <= machine.changes()


def make_turns(machine, many):
    """Makes up to so many turns; returns how many there were."""
    made = 0
    while made < many and machine.turn():
        made += 1
    return made


class Begun:
    """What an open snapshot of a host stands for: its place in the log, its turns, its events."""

    def __init__(self, block, record, turns, many):
        self.block = block
        self.record = record
        self.turns = turns
        # So many of the RECORDs that wait are those of events in its state.
        self.many = many


class Host:
    """A machine whose events are logged and whose state is saved. It is made by start and recover."""

    def __init__(self, machine, store, log):
        self._machine = machine
        self._store = store
        self._log = log
        self._fixed = machine.turns()
        # The RECORDs of the events that are not in the log; the events of so many of them, from the
        # first on, are durable all the same, by a snapshot.
        self._waiting = []
        self._durable = 0
        # What the open snapshot stands for, or None.
        self._begun = None

    def accept(self, port, number, value):
        """Takes an input; returns whether it is a new one. Raises Gap(number), then Full(count)."""
        after = self._machine.given(port) + 1
        if number < 1 or number > after:
            raise Gap(after)
        if number < after:
            return False
        row = (IN, self.turns(), port, number, value)
        self._check_room(row)
        self._machine.give(port, value)
        self._waiting.append(row)
        return True

    def change(self, text):
        """Changes the program. Raises BadText(at), Full(count), Unsound(faults), Refused."""
        program = read(text)
        row = (CHANGE, self.turns(), self._machine.changes() + 1, write(program))
        self._check_room(row)
        self._machine.change(program)
        self._waiting.append(row)

    def _check_room(self, row):
        """Raises Full(count) if the log could not take one RECORD more in one commit."""
        rows = [*self._waiting, row, (FIXED, self.turns())]
        if len(packs(rows)) > LOG_BLOCKS:
            raise Full(LOG_BLOCKS)

    def run(self, many):
        """Makes up to so many turns; returns how many there were."""
        return make_turns(self._machine, many)

    def turns(self):
        """How many turns there were."""
        return self._machine.turns()

    def commit(self):
        """Makes all events durable and the present turn the fixed one; returns it. Raises Full(count)."""
        turns = self.turns()
        rows = list(self._waiting)
        named = rows[-1][1] if rows else 0
        if turns > max(self._fixed, named):
            rows.append((FIXED, turns))
        if len(packs(rows)) > self._log.room():
            raise Full(LOG_BLOCKS)
        for row in rows:
            self._log.append(row)
        self._log.flush()
        self._fixed = turns
        self._waiting = []
        self._durable = 0
        if self._begun is not None:
            self._begun.many = 0
        return turns

    def fixed(self):
        """The fixed turn."""
        return self._fixed

    def confirmed(self, port):
        """The number of the last durable input of a port, or 0."""
        loose = [row for row in self._waiting[self._durable:] if row[0] == IN and row[2] == port]
        return self._machine.given(port) - len(loose)

    def outbox(self, port):
        """The list of the pairs (number, value) of the released outputs that are not forgotten."""
        return [(number, value) for number, value, turn in self._machine.outputs(port) if turn < self._fixed]

    def took(self, port, number):
        """Forgets the outputs of a port up to this number. Raises NoOutput(number)."""
        kept = self._machine.outputs(port)
        forgotten = self._machine.sent(port) - len(kept)
        if number > forgotten + len(self.outbox(port)):
            raise NoOutput(number)
        self._machine.forget(port, number)

    def snapshot(self, many=None):
        """Begins a snapshot if none is open and writes up to so many of its pages; returns whether it
        was finished. Raises Full(count)."""
        if self._begun is None:
            self._begin()
        try:
            if many is not None and self._store.step(many) > 0:
                return False
            self._store.finish()
        except Full:
            self._begun = None
            raise
        self._finish()
        return True

    def _begin(self):
        log = self._log
        begun = Begun(log.next_block(), log.safe(), self.turns(), len(self._waiting))
        self._store.begin(self._machine.memory(), (begun.block, begun.record, log.epoch(), begun.turns))
        self._begun = begun

    def _finish(self):
        """Does what follows from a snapshot that is finished."""
        begun = self._begun
        self._begun = None
        self._log.cut(begun.block, begun.record)
        self._fixed = max(self._fixed, begun.turns)
        self._durable = max(self._durable, begun.many)

    def collect(self, many=None):
        """Goes on with a collection of records, or begins one; returns whether one ended."""
        return self._machine.collect(many)

    def records(self):
        """How many records there are, reachable or not."""
        return self._machine.records()

    def picture(self):
        """The state, as the tuple (last, next, tasks, queues, records)."""
        return self._machine.picture()

    def able(self):
        """The ascending list of the numbers of the able tasks."""
        return self._machine.able()

    def text(self):
        """The text of the program."""
        return write(self._machine.program())
