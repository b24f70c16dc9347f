"""Turns of tasks."""

from lastingrun.limits import DEPTH, QUANTUM
from lastingrun.values import (
    NO_FIELD, TOO_DEEP, WRONG_KIND, Failure, integer, is_record, is_true, negated, operated,
)


def next_able(able, last):
    """Which of the able tasks has the turn behind one of the last task, which may be None."""
    later = [number for number in able if last is not None and number > last]
    return later[0] if later else able[0]


class Frame:
    """A call in progress: where it is, the values that its statement still needs, its variables."""

    def __init__(self, code, values):
        self.code = code
        # The place of the next step; that of the call where another frame stands on this one.
        self.place = 0
        self.stack = []
        self.variables = dict(zip(code.parameters, values))

    def take(self, many):
        """Takes so many values off the stack, those pushed last; returns them as a list."""
        low = len(self.stack) - many
        values = self.stack[low:]
        del self.stack[low:]
        return values


# The actions of the steps behind which the next step follows.

def push(world, frame, step):
    frame.stack.append(step[1])


def load(world, frame, step):
    frame.stack.append(frame.variables[step[1]])


def store(world, frame, step):
    frame.variables[step[1]] = frame.stack.pop()


def drop(world, frame, step):
    frame.stack.pop()


def change_sign(world, frame, step):
    frame.stack.append(negated(frame.stack.pop()))


def change_truth(world, frame, step):
    frame.stack.append(0 if is_true(frame.stack.pop()) else 1)


def operate(world, frame, step):
    left, right = frame.take(2)
    frame.stack.append(operated(step[1], left, right))


def make_record(world, frame, step):
    fields = step[1]
    frame.stack.append(world.make(fields, frame.take(len(fields))))


def check_field(world, record, field):
    """Fails if the value is no record with this field."""
    if not is_record(record):
        raise Failure(WRONG_KIND)
    if not world.has(record, field):
        raise Failure(NO_FIELD)


def get_field(world, frame, step):
    record = frame.stack.pop()
    check_field(world, record, step[1])
    frame.stack.append(world.field(record, step[1]))


def put_field(world, frame, step):
    record, value = frame.take(2)
    check_field(world, record, step[1])
    world.set_field(record, step[1], value)


def send(world, frame, step):
    world.send(step[1], integer(frame.stack.pop()))


def spawn(world, frame, step):
    world.spawn(step[1], frame.take(step[2]))


ACTIONS = {
    "push": push, "load": load, "store": store, "drop": drop,
    "neg": change_sign, "not": change_truth, "op": operate,
    "new": make_record, "get": get_field, "put": put_field,
    "send": send, "spawn": spawn,
}


# The actions of the steps behind which something else may follow.

def begin(turn, frame, step):
    if turn.counted == QUANTUM:
        turn.over = True
    else:
        turn.counted += 1
        frame.place += 1


def receive(turn, frame, step):
    value = turn.world.take(step[1])
    if value is None:
        turn.over = True
    else:
        frame.stack.append(value)
        frame.place += 1


def call(turn, frame, step):
    values = frame.take(step[2])
    if len(turn.frames) >= DEPTH:
        raise Failure(TOO_DEEP)
    turn.frames.append(Frame(turn.world.codes[step[1]], values))


def leave(turn, frame, step):
    value = frame.stack.pop()
    turn.frames.pop()
    if turn.frames:
        # The frame below has been at its call.
        turn.frames[-1].stack.append(value)
        turn.frames[-1].place += 1


def throw(turn, frame, step):
    turn.throw(frame.stack.pop())


def jump(turn, frame, step):
    frame.place = step[1]


def skip(turn, frame, step):
    frame.place = frame.place + 1 if is_true(frame.stack.pop()) else step[1]


def skip_false(turn, frame, step):
    """Skips the right side of an and whose left side is false, and so is the whole value."""
    skip_right(frame, step, not is_true(frame.stack[-1]))


def skip_true(turn, frame, step):
    """Skips the right side of an or whose left side is true, and so is the whole value."""
    skip_right(frame, step, is_true(frame.stack[-1]))


def skip_right(frame, step, known):
    if known:
        frame.place = step[1]
    else:
        frame.stack.pop()
        frame.place += 1


MOVES = {
    "begin": begin, "receive": receive, "call": call, "return": leave, "throw": throw,
    "jump": jump, "skip": skip, "and": skip_false, "or": skip_true,
}


class Turn:
    """A turn of the task with this number and these frames, the innermost last.

    The world is what the tasks share: codes, a dict of the Code of each function by its name, and
    the methods take, send, spawn, make, has, field and set_field.
    """

    def __init__(self, world, number, frames):
        self.world = world
        self.number = number
        self.frames = frames
        self.counted = 0
        self.over = False

    def run(self):
        """Lets the task go on until the turn ends; no frames are left if the task ends."""
        while self.frames and not self.over:
            frame = self.frames[-1]
            step = frame.code.steps[frame.place]
            try:
                self.act(frame, step)
            except Failure as failure:
                self.throw(failure.number)

    def act(self, frame, step):
        if step[0] in ACTIONS:
            action = ACTIONS[step[0]]
            action(self.world, frame, step)
            frame.place += 1
        else:
            move = MOVES[step[0]]
            move(self, frame, step)

    def throw(self, value):
        """Lets the innermost handler around the present place go on, or ends the task."""
        while self.frames:
            frame = self.frames[-1]
            catch = frame.code.catch_place(frame.place)
            if catch is not None:
                frame.stack = [value]
                frame.place = catch
                return
            self.frames.pop()
        self.world.send("faults", self.number)
