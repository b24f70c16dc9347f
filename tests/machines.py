"""Machines for the tests, which are made again for every call, and what is looked at in their memories."""

from lastingrun.collect import reachable
from lastingrun.heap import Heap
from lastingrun.machine import Machine
from lastingrun.memory import Memory

QUERIES = ("given", "turns", "outputs", "sent", "able", "program", "changes", "picture", "records")


def pages(memory):
    return [memory.page(number) for number in range(memory.many())]


def copied(memory):
    """Another memory with the same cells."""
    return Memory(pages(memory))


class Remade:
    """A machine that is made again for each call; half of the time over a copy of its memory."""

    def __init__(self, program):
        self.cells = Memory()
        Machine(self.cells, program)
        self.count = 0

    def __getattr__(self, name):
        def call(*args, **names):
            self.count += 1
            if self.count % 2:
                self.cells = copied(self.cells)
            before = pages(self.cells)
            machine = Machine(self.cells)
            result = getattr(machine, name)(*args, **names)
            if name in QUERIES:
                assert pages(self.cells) == before
                if self.count % 2:
                    assert self.cells.changed() == []
            look_at_heap(self.cells)
            return result
        return call


def look_at_heap(memory):
    """Nothing that is reachable names what is no object; only records are unreachable."""
    heap = Heap(memory)
    refs = heap.refs()
    assert refs[0] == "@0"
    good = set(reachable(heap, ["@0"]))
    for ref in refs:
        if ref in good:
            for atom in heap.atoms(ref):
                assert not (isinstance(atom, str) and atom.startswith("@")) or atom in refs, (ref, atom)
        else:
            assert heap.kind(ref).startswith("record"), (ref, heap.kind(ref))
