"""The roots of a store, and the shapes of the blocks below them."""

from lastingrun.limits import FAN

KIND = "root"

# How many ATOMs stand in a root before its FACTS, and how many FACTS there are at most.
HEAD = 5
MOST_FACTS = 16


def depth_for(many):
    """The least depth of a tree that has room for so many pages."""
    depth = 0
    room = 1
    while room < many:
        depth += 1
        room *= FAN
    return depth


def root_block(number, top, depth, many, facts):
    return (KIND, number, top, depth, many, *facts)


def root_parts(block, place):
    """The tuple (number, top, depth, many, facts) of a root that stands at a place, or None for any
    other block."""
    if len(block) < HEAD or len(block) > HEAD + MOST_FACTS or block[0] != KIND:
        return None
    number, top, depth, many = block[1:HEAD]
    if not all([isinstance(atom, int) and atom >= 0 for atom in (number, depth, many)]):
        return None
    if top is not None and not isinstance(top, int):
        return None
    if number % 2 != place or depth != depth_for(many):
        return None
    return (number, top, depth, many, block[HEAD:])


def newest_root(disk):
    """The parts of the root with the greatest number in the blocks 0 and 1 of a disk, or None."""
    newest = None
    for place in range(2):
        parts = root_parts(disk.read(place), place)
        if parts is not None and (newest is None or parts[0] > newest[0]):
            newest = parts
    return newest
