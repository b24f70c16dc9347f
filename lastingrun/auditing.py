"""The faults of the tree of a store, of the cells in its pages, and of the objects in these cells."""

from lastingrun.limits import FAN, PAGE
from lastingrun.memory import Memory
from lastingrun.packing import is_count
from lastingrun.trees import read_tree


def block_faults(disk, low, top, depth, many):
    """The list of the faults ("block", place) of a tree in the blocks from low on, ascending."""
    span = 1
    for _ in range(depth):
        span *= FAN
    used = {}
    bad = {}
    # What is left to look at, the next one last: places, each with the pages that it stands for.
    rest = [] if top is None else [(top, 0, span)]
    while rest:
        place, first, span = rest.pop()
        if place in used or place < low or first >= many or not has_form(disk, place, span):
            bad[place] = True
        elif span > 1:
            rest.extend(parts_below(disk.read(place), first, span // FAN))
        used[place] = True
    return [("block", place) for place in sorted(bad)]


def parts_below(block, first, span):
    """The list of the parts that an index block names, with the pages that they stand for, the last
    part first."""
    parts = [(place, first + at * span, span) for at, place in enumerate(block) if place is not None]
    parts.reverse()
    return parts


def has_form(disk, place, span):
    """Whether a block that stands for so many pages has the form of an index block or a page."""
    if place >= disk.size():
        return False
    block = disk.read(place)
    if not block or block[-1] is None:
        return False
    if span == 1:
        return len(block) <= PAGE
    return len(block) <= FAN and all([atom is None or isinstance(atom, int) for atom in block])


def memory_of(disk, top, depth, many):
    """A memory with the pages of a tree."""
    memory = Memory()
    for number, place in read_tree(disk, top, depth, many).levels[0].items():
        for at, atom in enumerate(disk.read(place)):
            memory.put(number * PAGE + at, atom)
    return memory


class CellAudit:
    """A way through the cells of a memory that are not None, up to the first wrong one."""

    def __init__(self, memory):
        # By the REFs of the objects the list of the pairs (cell, atom) in them that look like a REF.
        self.objects = {}
        # The first wrong cell, or None.
        self.wrong = None
        behind = 0
        pairs = []
        for cell in memory.filled():
            atom = memory.get(cell)
            if cell >= behind:
                many = memory.get(cell + 1)
                if not isinstance(atom, str) or atom.startswith("@") or not is_count(many):
                    self.wrong = cell
                    break
                behind = cell + 2 + many
                pairs = []
                self.objects[f"@{cell}"] = pairs
            elif isinstance(atom, str) and atom.startswith("@"):
                pairs.append((cell, atom))
        if "@0" not in self.objects:
            self.wrong = 0

    def cell_faults(self):
        """The list of the first fault ("cell", cell), or []."""
        return [] if self.wrong is None else [("cell", self.wrong)]

    def ref_faults(self):
        """The list of the faults ("ref", cell), ascending."""
        found = {"@0": True}
        rest = ["@0"]
        bad = []
        while rest:
            for cell, ref in self.objects[rest.pop()]:
                if ref not in self.objects:
                    bad.append(("ref", cell))
                elif ref not in found:
                    found[ref] = True
                    rest.append(ref)
        return sorted(bad)
