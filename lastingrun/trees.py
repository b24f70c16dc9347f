"""Trees of blocks that name blocks, down to those of the pages."""

from lastingrun.limits import FAN
from lastingrun.memory import without_end


class Tree:
    """A tree of a given depth: on each level, from that of the pages upwards, the places of its parts.

    The part k of a level names the parts k * FAN, .., k * FAN + FAN - 1 of the level below.
    """

    def __init__(self, depth, many):
        self.depth = depth
        # How many pages there are, also empty ones.
        self.many = many
        self.levels = [{} for _ in range(depth + 1)]

    def top(self):
        """The place of the top block, or None if all pages are empty."""
        return self.levels[self.depth].get(0)

    def place(self, level, part):
        """The place of a part, or None if there is none."""
        return self.levels[level].get(part) if level <= self.depth else None

    def index(self, level, part):
        """The index block of a part above the pages; () if there is none."""
        if level > self.depth:
            return ()
        below = self.levels[level - 1]
        return without_end([below.get(part * FAN + at) for at in range(FAN)])

    def parts_above(self, level):
        """The ascending list of the parts of a level that name a part of the level below."""
        return sorted({part // FAN for part in self.levels[level - 1]})

    def places(self):
        """The places of all blocks, as the keys of a dict."""
        return {place: True for level in self.levels for place in level.values()}


def read_tree(disk, top, depth, many):
    """The tree whose blocks are on a disk."""
    tree = Tree(depth, many)
    if top is not None:
        tree.levels[depth][0] = top
    for level in range(depth, 0, -1):
        below = tree.levels[level - 1]
        for part, place in list(tree.levels[level].items()):
            for at, inner in enumerate(disk.read(place)):
                if inner is not None:
                    below[part * FAN + at] = inner
    return tree
