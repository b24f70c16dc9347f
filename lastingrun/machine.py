"""The machine: a run whose whole state is in a memory."""

from lastingrun.changing import check_change, move_frame, sound
from lastingrun.collect import Collector
from lastingrun.heap import Heap
from lastingrun.pictures import Picture
from lastingrun.states import CHANGES, LAST_TASK, NEXT_TASK, NUMBER, ROOT, TEXT, TURNS, Stack, State
from lastingrun.steps import codes_of
from lastingrun.text import write
from lastingrun.turns import Turn, next_able


class Machine:
    """A run of a sound program in an empty memory, or the one that a memory holds already.

    Raises Unsound(faults).
    """

    def __init__(self, memory, program=None):
        text = None if program is None else write(sound(program))
        self._memory = memory
        self._heap = Heap(memory)
        self._collector = Collector(self._heap)
        self._state = State(self._heap)
        if text is not None:
            self._state.begin(text)

    def give(self, port, value):
        """Appends an integer to the queue of a port."""
        self._state.give(port, value)

    def given(self, port):
        """How many integers were given to a port."""
        ref = self._state.port(port)
        return 0 if ref is None else self._state.queue(ref).added()

    def turn(self):
        """Makes one turn; returns whether there is one."""
        state = self._state
        able = self._able_tasks()
        if not able:
            return False
        number = next_able(list(able), state.get(LAST_TASK))
        stack = Stack(state, able[number])
        Turn(state, number, stack.frames).run()
        stack.keep()
        if not stack.frames:
            state.end_task(able[number])
        state.put(LAST_TASK, number)
        state.put(TURNS, state.get(TURNS) + 1)
        return True

    def turns(self):
        """How many turns there were."""
        return self._state.get(TURNS)

    def outputs(self, port):
        """The outputs of a port that are not forgotten, as triples (number, value, turn)."""
        ref = self._state.port(port)
        if ref is None:
            return []
        line = self._state.outputs(ref)
        atoms = line.rest()
        first = line.taken() // 2 + 1
        return [(first + at, value, turn) for at, (value, turn) in enumerate(zip(atoms[::2], atoms[1::2]))]

    def sent(self, port):
        """How many outputs of a port were made."""
        ref = self._state.port(port)
        return 0 if ref is None else self._state.outputs(ref).added() // 2

    def forget(self, port, number):
        """Forgets the outputs of a port that were made so far up to this number."""
        for output in self.outputs(port):
            if output[0] <= number:
                line = self._state.outputs(self._state.port(port))
                line.take()
                line.take()

    def able(self):
        """The ascending list of the numbers of the able tasks."""
        return list(self._able_tasks())

    def _able_tasks(self):
        """The REFs of the able tasks by their numbers, which ascend."""
        state = self._state
        state.look()
        waiting = state.waiting()
        able = {}
        for task in state.tasks():
            step = state.step_of(task)
            if step[0] != "receive" or step[1] in waiting:
                able[self._heap.get(task, NUMBER)] = task
        return able

    def program(self):
        self._state.look()
        return self._state.program

    def changes(self):
        """How many changes of the program there were."""
        return self._state.get(CHANGES)

    def picture(self):
        """The state, as the tuple (last, next, tasks, queues, records)."""
        state = self._state
        picture = Picture(state)
        tasks = picture.show_tasks([(number, stack.frames) for number, stack in self._stacks()])
        ports = state.ports()
        waiting = sorted(state.waiting())
        queues = tuple([(name, tuple(state.queue(ports[name]).rest())) for name in waiting])
        return (state.get(LAST_TASK), state.get(NEXT_TASK), tasks, queues, picture.show_records())

    def _stacks(self):
        """The list of the pairs (number, Stack) of the tasks, ascending."""
        self._state.look()
        return [(self._heap.get(task, NUMBER), Stack(self._state, task)) for task in self._state.tasks()]

    def change(self, program):
        """Replaces the program. Raises Unsound(faults), then Refused(task, depth, word)."""
        copied = sound(program)
        codes = codes_of(copied)
        stacks = self._stacks()
        check_change([(number, stack.frames) for number, stack in stacks], codes)
        for _, stack in stacks:
            for frame in stack.frames:
                move_frame(frame, codes)
            stack.keep()
        self._state.put(TEXT, write(copied))
        self._state.put(CHANGES, self.changes() + 1)

    def memory(self):
        return self._memory

    def collect(self, many=None):
        """Goes on with a collection, or begins one; with None makes a whole one, behind the end of one
        that is under way. Returns whether a collection ended."""
        if many is None:
            self._end_collection()
            self._collector.begin([ROOT])
            self._end_collection()
            return True
        if not self._collector.busy():
            self._collector.begin([ROOT])
        return self._collector.step(many)

    def _end_collection(self):
        while self._collector.busy():
            self._collector.step()

    def records(self):
        """How many records there are in the memory, reachable or not."""
        return self._state.many_records()
