"""The blocks of a log: how RECORDs stand in them."""

from lastingrun.limits import WIDTH

KIND = "log"

# How many ATOMs stand in a block before its RECORDs.
HEAD = 5

# A RECORD has at most so many ATOMs.
LONGEST = 8


def packs(records):
    """The list of lists into which RECORDs are divided: as many for each block as fit."""
    rows = []
    left = 0
    for record in records:
        need = 1 + len(record)
        if need > left:
            rows.append([])
            left = WIDTH - HEAD
        rows[-1].append(record)
        left -= need
    return rows


def packed(number, epoch, first, records):
    """The block with this number and epoch that has these RECORDs from the number first on."""
    atoms = [KIND, number, epoch, first, len(records)]
    for record in records:
        atoms.append(len(record))
        atoms.extend(record)
    return tuple(atoms)


def is_count(atom):
    """Whether an ATOM is an integer from 0."""
    return isinstance(atom, int) and atom >= 0


def unpacked(block):
    """The tuple (number, epoch, first, records) of a block of a log, or None for any other block."""
    if len(block) < HEAD or block[0] != KIND:
        return None
    if not all([is_count(atom) for atom in block[1:HEAD]]):
        return None
    _, number, epoch, first, many = block[:HEAD]
    records = records_of(block[HEAD:])
    if records is None or len(records) != many:
        return None
    return (number, epoch, first, records)


def records_of(atoms):
    """The list of the RECORDs that stand in these ATOMs one after another, or None."""
    records = []
    at = 0
    while at < len(atoms):
        many = atoms[at]
        if not is_count(many) or many < 1 or many > LONGEST or at + 1 + many > len(atoms):
            return None
        records.append(tuple(atoms[at + 1:at + 1 + many]))
        at += 1 + many
    return records
