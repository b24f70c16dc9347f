"""The state of a run in the objects of a heap.

The object at cell 0 names the newest task and the newest port; each of these names the one that was
made before it. A task names its innermost frame, and a frame the one below it.
"""

from lastingrun.lines import ADDED, EMPTY_LINE, TAKEN, Line
from lastingrun.live import live_names
from lastingrun.steps import codes_of
from lastingrun.text import read
from lastingrun.turns import Frame

# The object at cell 0, and its places.
ROOT = "@0"
TEXT = 0
LAST_TASK = 1
NEXT_TASK = 2
TURNS = 3
CHANGES = 4
TASKS = 5
PORTS = 6

# The places of a task.
NUMBER = 0
FRAME = 1
NEXT = 2

# The places of a port: its name, the port that was made before it, and two lines of four ATOMs each:
# what waits in the queue, and the outputs that are not forgotten, each as its value and its turn.
NAME = 0
BEFORE = 1
QUEUE = 2
OUTPUTS = 6

# The places of a frame: its function, its step and the frame below; the rest are the held values
# and those of the live variables.
BELOW = 2
VALUES = 3

# The kind of a record is this word with the names of its fields behind it.
RECORD = "record"


def fields_of(kind):
    """The list of the fields of the records of a kind."""
    return kind.split(" ")[1:]


class State:
    """The state of a run in a heap. It keeps nothing but what it has read out of the text there."""

    def __init__(self, heap):
        self.heap = heap
        self._text = None
        self.program = None
        self.codes = None

    def begin(self, text):
        """Makes the objects of a run before its first turn, in an empty heap."""
        self.heap.make("run", (text, None, 0, 0, 0, None, None))
        self.look()
        self.spawn("main", [])

    def look(self):
        """Reads the text of the program if it is not the one that was read last."""
        text = self.get(TEXT)
        if text != self._text:
            self._text = text
            self.program = read(text)
            self.codes = codes_of(self.program)

    def get(self, place):
        """An ATOM of the object at cell 0."""
        return self.heap.get(ROOT, place)

    def put(self, place, atom):
        self.heap.put(ROOT, place, atom)

    def _chain(self, ref, place):
        """The list of the REFs of the objects from one on, of which each names the next at a place."""
        refs = []
        while ref is not None:
            refs.append(ref)
            ref = self.heap.get(ref, place)
        return refs

    # Ports.

    def ports(self):
        """The REFs of the ports by their names."""
        return {self.heap.get(ref, NAME): ref for ref in self._chain(self.get(PORTS), BEFORE)}

    def port(self, name):
        """The REF of a port, or None if it has none."""
        return self.ports().get(name)

    def made_port(self, name):
        """The REF of a port, which is made if it has none."""
        ref = self.port(name)
        if ref is None:
            ref = self.heap.make("port", (name, self.get(PORTS), *EMPTY_LINE, *EMPTY_LINE))
            self.put(PORTS, ref)
        return ref

    def queue(self, ref):
        return Line(self.heap, ref, QUEUE)

    def outputs(self, ref):
        return Line(self.heap, ref, OUTPUTS)

    def waiting(self):
        """The names of the ports whose queues are not empty, as the keys of a dict."""
        found = {}
        for name, ref in self.ports().items():
            row = self.heap.atoms(ref)
            if row[QUEUE + TAKEN] < row[QUEUE + ADDED]:
                found[name] = True
        return found

    def give(self, port, value):
        self.queue(self.made_port(port)).add(value)

    def take(self, port):
        """The first value out of the queue of a port; None if the queue is empty."""
        if port not in self.waiting():
            return None
        return self.queue(self.port(port)).take()

    def send(self, port, value):
        line = self.outputs(self.made_port(port))
        line.add(value)
        line.add(self.get(TURNS))

    # Records.

    def make(self, fields, values):
        return self.heap.make(" ".join([RECORD, *fields]), values)

    def has(self, record, field):
        return field in fields_of(self.heap.kind(record))

    def field(self, record, field):
        return self.heap.get(record, fields_of(self.heap.kind(record)).index(field))

    def set_field(self, record, field, value):
        self.heap.put(record, fields_of(self.heap.kind(record)).index(field), value)

    def pairs(self, record):
        """The list of the pairs (field, value) of a record."""
        return list(zip(fields_of(self.heap.kind(record)), self.heap.atoms(record)))

    def many_records(self):
        """How many records there are, reachable or not."""
        words = [self.heap.kind(ref).split(" ")[0] for ref in self.heap.refs()]
        return words.count(RECORD)

    # Tasks.

    def tasks(self):
        """The list of the REFs of the tasks, by ascending numbers."""
        refs = self._chain(self.get(TASKS), NEXT)
        refs.reverse()
        return refs

    def spawn(self, name, values):
        number = self.get(NEXT_TASK)
        task = self.heap.make("task", (number, None, self.get(TASKS)))
        self.put(TASKS, task)
        self.put(NEXT_TASK, number + 1)
        Stack(self, task).push(Frame(self.codes[name], values))

    def end_task(self, task):
        """Frees a task without frames."""
        after = self.heap.get(task, NEXT)
        if self.get(TASKS) == task:
            self.put(TASKS, after)
        else:
            refs = self.tasks()
            self.heap.put(refs[refs.index(task) + 1], NEXT, after)
        self.heap.free(task)

    def step_of(self, task):
        """The step at which a task is."""
        name, place = self.heap.atoms(self.heap.get(task, FRAME))[:BELOW]
        return self.codes[name].steps[place]


class Stack:
    """The frames of a task, taken out of the heap, the innermost last; keep puts them back."""

    def __init__(self, state, task):
        self._state = state
        self._heap = state.heap
        self._task = task
        self.frames = []
        # The REFs by frames that are in the heap.
        self._refs = {}
        ref = self._heap.get(task, FRAME)
        while ref is not None:
            row = self._heap.atoms(ref)
            frame = self._frame(row)
            self._refs[frame] = ref
            self.frames.append(frame)
            ref = row[BELOW]
        self.frames.reverse()

    def _frame(self, row):
        """The frame that an object with these ATOMs holds."""
        name, place = row[:BELOW]
        frame = Frame(self._state.codes[name], [])
        frame.place = place
        names = live_names(frame.code, place)
        low = len(row) - len(names)
        frame.stack = list(row[VALUES:low])
        frame.variables = dict(zip(names, row[low:]))
        return frame

    def push(self, frame):
        """Adds a frame, also in the heap."""
        self.frames.append(frame)
        self.keep()

    def keep(self):
        """Puts the frames, as they are now, into the heap."""
        refs = self._refs
        self._refs = {}
        below = None
        for frame in self.frames:
            below = self._keep_frame(frame, refs.get(frame), below)
            self._refs[frame] = below
        self._heap.put(self._task, FRAME, below)
        for frame, ref in refs.items():
            if frame not in self._refs:
                self._heap.free(ref)

    def _keep_frame(self, frame, ref, below):
        """Puts a frame into the object with this REF, or into a new one; returns its REF."""
        names = live_names(frame.code, frame.place)
        values = [frame.variables[name] for name in names]
        row = [frame.code.name, frame.place, below, *frame.stack, *values]
        if ref is not None and len(self._heap.atoms(ref)) == len(row):
            for place, atom in enumerate(row):
                self._heap.put(ref, place, atom)
            return ref
        if ref is not None:
            self._heap.free(ref)
        return self._heap.make("frame", row)
