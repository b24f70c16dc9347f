"""A world around a host: it sends inputs, sees outputs, and looks at what a crash leaves.

All that a host shows is held against a plain run with the same events at the same turns.
"""

import copy

from stores import nodes, root

from lastingrun.audit import audit, explains, replayed
from lastingrun.disk import Disk
from lastingrun.errors import NoHistory, Stopped
from lastingrun.host import recover, start
from lastingrun.text import write

PORTS = ("in", "p", "out", "faults")


class Careful(Disk):
    """A disk on which nothing is ever written into a block that the newest root reaches, whichever of the
    loose writes are kept. It can be told to look at crashes at each write and barrier."""

    look = None

    def write(self, place, block):
        if place > 17:
            for image in self.roots():
                assert place not in nodes(image).values(), place
        if place < 2 and root(self.image()) is not None:
            assert block[1] > root(self.image())[1]
            # The tree is not loose any more when its root is written.
            assert not [row for row in self.loose() if row[0] not in range(2, 18)]
        super().write(place, block)
        if self.look is not None:
            self.look()

    def roots(self):
        """What the disk may show, with the roots that may be kept; only those that have roots."""
        found = [self.image()]
        disk = copy.copy(self)
        disk.crash([])
        found.append(disk.image())
        return [image for image in found if root(image) is not None]

    def barrier(self):
        super().barrier()
        if self.look is not None:
            self.look()


class World:
    def __init__(self, text, disk):
        self.text = text
        self.disk = disk
        self.host = start(disk, text)
        # The events that were accepted, in order; so many of them are durable for sure.
        self.history = []
        self.durable = 0
        self.fixed = 0
        # The values of the outputs that the world saw, by ports.
        self.seen = {port: [] for port in PORTS}
        self.begun = None
        self.crashes = 0

    def accept(self, port, value):
        number = 1 + sum(1 for event in self.history if event[0] == "in" and event[2] == port)
        turns = self.host.turns()
        assert self.host.accept(port, number, value) is True
        assert self.host.accept(port, number, value + 1) is False
        self.history.append(("in", turns, port, number, value))

    def change(self, text):
        """Raises what the host raises."""
        turns = self.host.turns()
        self.host.change(text)
        self.history.append(("change", turns, text))

    def commit(self):
        turns = self.host.turns()
        assert self.host.commit() == turns
        self.durable = len(self.history)
        self.fixed = turns
        self.look()

    def snapshot(self, many=None):
        begun = self.begun or (len(self.history), self.host.turns())
        self.begun = begun
        try:
            finished = self.host.snapshot(many)
        except OverflowError:
            self.begun = None
            raise
        if finished:
            self.begun = None
            self.durable = max(self.durable, begun[0])
            self.fixed = max(self.fixed, begun[1])
        self.look()
        return finished

    def took(self, port, number):
        self.host.took(port, number)

    def confirmed(self, port):
        return sum(1 for event in self.history[:self.durable] if event[0] == "in" and event[2] == port)

    def run(self):
        """The plain run with the same events."""
        return replayed(self.text, self.history, self.host.turns())

    def look(self):
        """Looks at all that the host shows."""
        host = self.host
        assert host.fixed() == self.fixed
        run = self.run()
        assert host.picture() == run.picture()
        assert host.able() == run.able()
        for port in PORTS:
            assert host.confirmed(port) == self.confirmed(port), port
            released = [(number, value) for number, value, turn in run.outputs(port) if turn < self.fixed]
            outbox = host.outbox(port)
            assert outbox == released[len(released) - len(outbox):]
            # What was seen once never changes.
            seen = [value for _, value in released]
            assert seen[:len(self.seen[port])] == self.seen[port]
            self.seen[port] = seen

    def crash(self, kept):
        self.disk.crash(kept)
        assert audit(self.disk) == []
        image = self.disk.image()
        self.host = recover(self.disk)
        assert self.disk.image() == image and self.disk.loose() == []
        self.begun = None
        self.crashes += 1
        self.find()
        self.look()

    def find(self):
        """Finds out how many of the events are in the state that was recovered."""
        turns = self.host.turns()
        assert self.host.fixed() == turns and turns >= self.fixed
        self.fixed = turns
        for many in range(len(self.history), self.durable - 1, -1):
            try:
                run = replayed(self.text, self.history[:many], turns)
            except NoHistory:
                continue
            if run.picture() == self.host.picture() and write(run.program()) == self.host.text():
                if all(run.given(port) == self.host.confirmed(port) for port in PORTS):
                    del self.history[many:]
                    self.durable = many
                    return
        raise AssertionError("no events explain what was recovered")

    def explained(self):
        seen = [(port, list(enumerate(values, 1))) for port, values in self.seen.items()]
        return explains(self.text, self.history, self.host.turns(), seen)


def stopped(call):
    """Calls; returns whether the disk failed."""
    try:
        call()
    except Stopped:
        return True
    return False
