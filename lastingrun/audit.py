"""Audits of disks, and histories that explain what was seen."""

from lastingrun.auditing import CellAudit, block_faults, memory_of
from lastingrun.copying import as_tuples
from lastingrun.errors import BadText, NoHistory, Refused, Unsound
from lastingrun.host import make_turns, store_first
from lastingrun.packing import is_count
from lastingrun.plain import Run
from lastingrun.roots import newest_root
from lastingrun.text import read


def audit(disk):
    """The list of the faults of a host's disk, of the first kind that occurs, ascending."""
    parts = newest_root(disk)
    if parts is None:
        return [("root",)]
    _, top, depth, many, facts = parts
    if len(facts) != 4 or not all([is_count(fact) for fact in facts]):
        return [("root",)]
    found = block_faults(disk, store_first(), top, depth, many)
    if found:
        return found
    cells = CellAudit(memory_of(disk, top, depth, many))
    return cells.cell_faults() or cells.ref_faults()


def replayed(text, history, turns):
    """The run of a text after so many turns, with the events of a history. Raises NoHistory(index)."""
    run = Run(read(text))
    for index, event in enumerate(history):
        if event[1] > turns or not reaches(run, event[1]) or not applies(run, event):
            raise NoHistory(index)
    if not reaches(run, turns):
        raise NoHistory(len(history))
    return run


def reaches(run, turns):
    """Makes turns until there were so many; returns whether there are so many then."""
    make_turns(run, turns - run.turns())
    return run.turns() == turns


def applies(run, event):
    """Applies an event to a run; returns whether that can be done."""
    if event[0] == "change":
        return changes(run, event[2])
    _, _, port, number, value = event
    if number != run.given(port) + 1:
        return False
    run.give(port, value)
    return True


def changes(run, text):
    """Changes a run to the program of a text; returns whether that can be done."""
    try:
        run.change(read(text))
    except BadText:
        return False
    except Unsound:
        return False
    except Refused:
        return False
    return True


def explains(text, history, turns, seen):
    """Whether a history can be replayed and gives the outputs seen, pairs (port, list), their beginning."""
    try:
        run = replayed(text, history, turns)
    except NoHistory:
        return False
    except BadText:
        return False
    except Unsound:
        return False
    for port, pairs in as_tuples(seen):
        outputs = [(number, value) for number, value, _ in run.outputs(port)]
        if tuple(outputs[:len(pairs)]) != pairs:
            return False
    return True
