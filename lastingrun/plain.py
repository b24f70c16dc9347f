"""The plain run: what programs do."""

from lastingrun.changing import check_change, move_frame, sound
from lastingrun.pictures import Picture
from lastingrun.steps import codes_of
from lastingrun.turns import Frame, Turn, next_able


class Record:
    """A record; what it holds is a dict of the values of its fields."""

    def __init__(self, held):
        self.held = held


class World:
    """What the tasks of a run share, in Python's own objects."""

    def __init__(self, codes):
        self.codes = codes
        # The frames of the tasks, by their numbers; they are made in ascending order.
        self.tasks = {}
        self.next_task = 0
        # The index of the present turn, or of the next one.
        self.turn_index = 0
        # By ports: the values that wait, how many were given, the outputs that are not forgotten,
        # and how many were made.
        self.queues = {}
        self.given_counts = {}
        self.kept_outputs = {}
        self.sent_counts = {}

    def give(self, port, value):
        self.queues.setdefault(port, []).append(value)
        self.given_counts[port] = self.given_counts.get(port, 0) + 1

    def is_empty(self, port):
        return not self.queues.get(port, [])

    def take(self, port):
        """The first value out of the queue of a port; None if the queue is empty."""
        return None if self.is_empty(port) else self.queues[port].pop(0)

    def send(self, port, value):
        number = self.sent_counts.get(port, 0) + 1
        self.sent_counts[port] = number
        self.kept_outputs.setdefault(port, []).append((number, value, self.turn_index))

    def spawn(self, name, values):
        self.tasks[self.next_task] = [Frame(self.codes[name], values)]
        self.next_task += 1

    def make(self, fields, values):
        return Record(dict(zip(fields, values)))

    def has(self, record, field):
        return field in record.held

    def field(self, record, field):
        return record.held[field]

    def set_field(self, record, field, value):
        record.held[field] = value

    def pairs(self, record):
        """The list of the pairs (field, value) of a record."""
        return list(record.held.items())

    def waits(self, frames):
        """Whether a task with these frames waits at an empty queue."""
        step = frames[-1].code.steps[frames[-1].place]
        return step[0] == "receive" and self.is_empty(step[1])


class Run:
    """A run of a sound program, before its first turn. Raises Unsound(faults)."""

    def __init__(self, program):
        self._program = sound(program)
        self._world = World(codes_of(self._program))
        self._world.spawn("main", [])
        # The number of the task of the last turn.
        self._last = None
        self._many_changes = 0

    def give(self, port, value):
        """Appends an integer to the queue of a port."""
        self._world.give(port, value)

    def given(self, port):
        """How many integers were given to a port."""
        return self._world.given_counts.get(port, 0)

    def turn(self):
        """Makes one turn; returns whether there is one."""
        able = self.able()
        if not able:
            return False
        number = next_able(able, self._last)
        frames = self._world.tasks[number]
        Turn(self._world, number, frames).run()
        if not frames:
            del self._world.tasks[number]
        self._last = number
        self._world.turn_index += 1
        return True

    def turns(self):
        """How many turns there were."""
        return self._world.turn_index

    def outputs(self, port):
        """The outputs of a port that are not forgotten, as triples (number, value, turn)."""
        return list(self._world.kept_outputs.get(port, []))

    def sent(self, port):
        """How many outputs of a port were made."""
        return self._world.sent_counts.get(port, 0)

    def forget(self, port, number):
        """Forgets the outputs of a port that were made so far up to this number."""
        self._world.kept_outputs[port] = [output for output in self.outputs(port) if output[0] > number]

    def able(self):
        """The ascending list of the numbers of the able tasks."""
        return [number for number, frames in self._world.tasks.items() if not self._world.waits(frames)]

    def program(self):
        return self._program

    def changes(self):
        """How many changes of the program there were."""
        return self._many_changes

    def picture(self):
        """The state, as the tuple (last, next, tasks, queues, records)."""
        world = self._world
        picture = Picture(world)
        tasks = picture.show_tasks(list(world.tasks.items()))
        queues = tuple([(port, tuple(world.queues[port])) for port in sorted(world.queues) if world.queues[port]])
        return (self._last, world.next_task, tasks, queues, picture.show_records())

    def change(self, program):
        """Replaces the program. Raises Unsound(faults), then Refused(task, depth, word)."""
        copied = sound(program)
        codes = codes_of(copied)
        check_change(list(self._world.tasks.items()), codes)
        for frames in self._world.tasks.values():
            for frame in frames:
                move_frame(frame, codes)
        self._world.codes = codes
        self._program = copied
        self._many_changes += 1
