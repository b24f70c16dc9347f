"""How frames go on when the program changes."""

from lastingrun.check import faults
from lastingrun.copying import as_tuples
from lastingrun.errors import Refused, Unsound
from lastingrun.live import live_names


def sound(program):
    """A copy of a program. Raises Unsound(faults)."""
    found = faults(program)
    if found:
        raise Unsound(found)
    return as_tuples(program)


def next_place(frame, code):
    """The place in a new function at which a frame goes on, if it does."""
    # Texts are compared, because a long sum goes deep as a tree.
    if code.text == frame.code.text:
        return frame.place
    number, wait = frame.code.points[frame.place]
    return code.places[(code.numbers[frame.code.labels[number]], wait)]


def refusal(frame, codes):
    """The word that tells why a frame cannot go on in the functions of a new program, or None."""
    old = frame.code
    if old.name not in codes:
        return "gone"
    new = codes[old.name]
    if new.text == old.text:
        return None
    number, _ = old.points[frame.place]
    if number not in old.labels:
        return "unlabelled"
    if old.labels[number] not in new.numbers:
        return "no label"
    if new.head(new.numbers[old.labels[number]]) != old.head(number):
        return "other"
    before = live_names(old, frame.place)
    for name in live_names(new, next_place(frame, new)):
        if name not in before:
            return "unset"
    return None


def check_change(tasks, codes):
    """Raises Refused(task, depth, word) for the first frame of the tasks that cannot go on."""
    for number, frames in tasks:
        for depth, frame in enumerate(frames):
            word = refusal(frame, codes)
            if word is not None:
                raise Refused(number, depth, word)


def move_frame(frame, codes):
    """Lets a frame go on in the functions of a new program, which must not refuse it."""
    new = codes[frame.code.name]
    place = next_place(frame, new)
    frame.variables = {name: frame.variables[name] for name in live_names(new, place)}
    frame.place = place
    frame.code = new
