"""A second way to run programs, for the tests: generators go through the trees.

It follows the document's words and shares nothing with the package. A frame is a generator that
asks for what it needs; it can be made at any point of a function, from what a picture shows of it.
"""

LIMIT = 10 ** 12
DEPTH = 20
QUANTUM = 6


class Thrown(Exception):
    def __init__(self, value):
        super().__init__(value)
        self.value = value


class Refusal(Exception):
    pass


class Rec:
    def __init__(self, pairs):
        self.pairs = pairs


# Numbers of statements and waits.

def bare(statement):
    return statement[2] if statement[0] == "here" else statement


def blocks(statement):
    statement = bare(statement)
    return {"if": lambda: statement[2:], "while": lambda: statement[2:],
            "try": lambda: (statement[1], statement[3])}.get(statement[0], lambda: ())()


def size(block):
    return sum(1 + sum(size(inner) for inner in blocks(statement)) for statement in block)


def numbered(block, first=0):
    """All statements of a block with their numbers, as they stand, also those within others."""
    for statement in block:
        yield first, statement
        first += 1
        for inner in blocks(statement):
            yield from numbered(inner, first)
            first += size(inner)


def operands(tree):
    kind = tree[0]
    if kind == "call":
        return tree[2]
    if kind == "new":
        return tuple(value for _, value in tree[1])
    if kind == "get":
        return (tree[1],)
    if kind in ("neg", "not"):
        return (tree[1],)
    if kind == "op":
        return tree[2:]
    return ()


def expressions(statement):
    """The expressions of a statement itself, in the order of the text."""
    statement = bare(statement)
    kind = statement[0]
    if kind in ("let", "set", "send"):
        return (statement[2],)
    if kind == "put":
        return (statement[1], statement[3])
    if kind in ("do", "if", "while", "return", "throw"):
        return (statement[1],)
    if kind == "spawn":
        return statement[2]
    return ()


def waits(tree):
    return (tree[0] in ("call", "receive")) + sum(waits(part) for part in operands(tree))


# Live variables, from the end of a function to its beginning.

class Live:
    def __init__(self, body):
        self.points = {}
        self.block(body, 0, set(), set())
        if not body:
            self.points[(0, None)] = set()

    def point(self, number, wait, names, catch):
        self.points[(number, wait)] = self.points.get((number, wait), set()) | names | catch
        return names | catch

    def block(self, block, first, after, catch):
        places = []
        for statement in block:
            places.append((first, statement))
            first += size((statement,))
        for number, statement in reversed(places):
            after = self.statement(bare(statement), number, after, catch)
        return after

    def statement(self, statement, number, after, catch):
        kind = statement[0]
        if kind in ("let", "set"):
            before = self.values(statement, number, after - {statement[1]}, catch)
        elif kind == "return":
            before = self.values(statement, number, set(), catch)
        elif kind == "throw":
            before = self.values(statement, number, catch, catch)
        elif kind == "if":
            then = self.block(statement[2], number + 1, after, catch)
            other = self.block(statement[3], number + 1 + size(statement[2]), after, catch)
            before = self.values(statement, number, then | other, catch)
        elif kind == "while":
            before = set()
            while True:
                body = self.block(statement[2], number + 1, before, catch)
                again = self.values(statement, number, body | after, catch) | catch
                if again == before:
                    break
                before = again
        elif kind == "try":
            handler = self.block(statement[3], number + 1 + size(statement[1]), after, catch) - {statement[2]}
            before = self.block(statement[1], number + 1, after, handler)
        else:
            before = self.values(statement, number, after, catch)
        return self.point(number, None, before, catch)

    def values(self, statement, number, after, catch):
        first = 0
        places = []
        for tree in expressions(statement):
            places.append((first, tree))
            first += waits(tree)
        for wait, tree in reversed(places):
            after = self.value(tree, number, wait, after, catch)
        return after

    def value(self, tree, number, wait, after, catch):
        kind = tree[0]
        if kind == "var":
            return after | {tree[1]}
        if kind in ("call", "receive"):
            after = self.point(number, wait, after, catch)
            wait += 1
        places = []
        for part in operands(tree):
            places.append((wait, part))
            wait += waits(part)
        if kind == "op" and tree[1] in ("and", "or"):
            right = self.value(tree[3], number, places[1][0], after, catch)
            return self.value(tree[2], number, places[0][0], right | after, catch)
        for first, part in reversed(places):
            after = self.value(part, number, first, after, catch)
        return after


# Frames.

class Resume:
    """What a frame that is made in the middle of a function needs."""

    def __init__(self, number, wait, held):
        self.number = number
        self.wait = wait
        self.held = list(held)

    def within(self, first, many):
        return self.wait is not None and first <= self.wait < first + many


class Frame:
    def __init__(self, function, variables, resume=None):
        self.function = function
        self.variables = variables
        self.number = resume.number if resume else 0
        self.wait = resume.wait if resume else None
        self.held = list(resume.held) if resume else []
        self.ask = None
        self.steps = self.whole(resume)

    def whole(self, resume):
        result = yield from self.block(self.function[2], 0, resume)
        return result[0] if result else None

    def block(self, block, number, resume):
        """Returns what a return returned, in a tuple, or None."""
        for statement in block:
            many = size((statement,))
            if resume is None or number <= resume.number < number + many:
                result = yield from self.statement(bare(statement), number, resume)
                resume = None
                if result:
                    return result
            number += many
        return None

    def statement(self, statement, number, resume):
        if resume is None or (resume.number == number and resume.wait is None):
            resume = None
            self.number, self.wait, self.held = number, None, []
            yield ("begin",)
        inside = resume is not None and resume.number > number
        kind = statement[0]
        if kind == "while":
            while True:
                if not inside:
                    test = yield from self.value(statement[1], 0, resume)
                    if not true(test):
                        return None
                result = yield from self.block(statement[2], number + 1, resume if inside else None)
                if result:
                    return result
                inside, resume = False, None
                self.number, self.wait, self.held = number, None, []
                yield ("begin",)
        if kind == "if":
            other = number + 1 + size(statement[2])
            if inside:
                way = resume.number < other
            else:
                way = true((yield from self.value(statement[1], 0, resume)))
                resume = None
            return (yield from self.block(statement[2] if way else statement[3],
                                          number + 1 if way else other, resume))
        if kind == "try":
            handler = number + 1 + size(statement[1])
            if not inside or resume.number < handler:
                try:
                    return (yield from self.block(statement[1], number + 1, resume))
                except Thrown as thrown:
                    self.variables[statement[2]] = thrown.value
                    self.held = []
                resume = None
            return (yield from self.block(statement[3], handler, resume))
        return (yield from self.simple(statement, kind, resume))

    def simple(self, statement, kind, resume):
        values = yield from self.row(expressions(statement), 0, resume)
        if kind in ("let", "set"):
            self.variables[statement[1]] = values[0]
        elif kind == "put":
            check_field(values[0], statement[2])
            values[0].pairs[statement[2]] = values[1]
        elif kind == "send":
            if not number(values[0]):
                raise Thrown(-2)
            yield ("send", statement[1], values[0])
        elif kind == "spawn":
            yield ("spawn", statement[1], values)
        elif kind == "throw":
            raise Thrown(values[0])
        elif kind == "return":
            return (values[0],)
        return None

    def row(self, trees, wait, resume):
        """The values of expressions that are all needed, from left to right."""
        values = []
        for tree in trees:
            many = waits(tree)
            if resume is None or resume.within(wait, many):
                values.append((yield from self.value(tree, wait, resume)))
                resume = None
                self.held.append(values[-1])
            else:
                values.append(resume.held.pop(0))
            wait += many
        if values:
            del self.held[-len(values):]
        return values

    def value(self, tree, wait, resume):
        kind = tree[0]
        if kind == "int":
            return tree[1]
        if kind == "none":
            return None
        if kind == "var":
            return self.variables[tree[1]]
        if kind == "receive":
            self.wait = wait
            return (yield ("receive", tree[1]))
        if kind == "call":
            if resume is not None and resume.wait == wait:
                return (yield ("called",))
            values = yield from self.row(tree[2], wait + 1, resume)
            self.wait = wait
            return (yield ("call", tree[1], values))
        if kind == "op" and tree[1] in ("and", "or"):
            middle = wait + waits(tree[2])
            if resume is None or resume.wait < middle:
                left = yield from self.value(tree[2], wait, resume)
                if true(left) == (tree[1] == "or"):
                    return left
                resume = None
            return (yield from self.value(tree[3], middle, resume))
        values = yield from self.row(operands(tree), wait, resume)
        if kind == "new":
            return Rec(dict(zip([field for field, _ in tree[1]], values)))
        if kind == "get":
            check_field(values[0], tree[2])
            return values[0].pairs[tree[2]]
        if kind == "not":
            return 0 if true(values[0]) else 1
        if kind == "neg":
            return arithmetic("-", 0, values[0])
        return arithmetic(tree[1], *values)


def true(value):
    return not (value is None or value == 0)


def number(value):
    return isinstance(value, int)


def check_field(value, field):
    if not isinstance(value, Rec):
        raise Thrown(-2)
    if field not in value.pairs:
        raise Thrown(-3)


def arithmetic(sign, left, right):
    if sign in ("==", "!="):
        if number(left) and number(right):
            same = left == right
        else:
            same = left is right
        return 1 if same == (sign == "==") else 0
    if not number(left) or not number(right):
        raise Thrown(-2)
    if sign == "<":
        return 1 if left < right else 0
    if sign == "<=":
        return 0 if right < left else 1
    if sign in ("/", "mod") and right == 0:
        raise Thrown(-1)
    result = {
        "+": lambda: left + right, "-": lambda: left - right, "*": lambda: left * right,
        "/": lambda: divmod(left, right)[0], "mod": lambda: divmod(left, right)[1]}[sign]()
    if abs(result) > LIMIT:
        raise Thrown(-4)
    return result


# Runs.

class OracleRun:
    def __init__(self, program):
        self.text = program
        self.tasks = {}
        self.next = 0
        self.last = None
        self.count = 0
        self.queues = {}
        self.outs = []
        self.spawn("main", ())

    def function(self, name):
        return [function for function in self.text if function[0] == name][0]

    def frame(self, name, values):
        function = self.function(name)
        return Frame(function, dict(zip(function[1], values)))

    def spawn(self, name, values):
        self.tasks[self.next] = [self.frame(name, values)]
        self.go(self.tasks[self.next][-1], None)
        self.next += 1

    def give(self, port, value):
        self.queues.setdefault(port, []).append(value)

    def able(self):
        return [task for task in sorted(self.tasks) if not self.waits(self.tasks[task][-1])]

    def waits(self, frame):
        return frame.ask[0] == "receive" and not self.queues.get(frame.ask[1])

    def go(self, frame, value, thrown=None):
        """Lets a frame go on to its next question, with the answer or what is thrown."""
        try:
            frame.ask = frame.steps.throw(thrown) if thrown else frame.steps.send(value)
        except StopIteration as over:
            frame.ask = ("over", over.value)
        except Thrown as thrown:
            frame.ask = ("thrown", thrown.value)

    def turn(self):
        able = self.able()
        if not able:
            return False
        self.last = min(able, key=lambda task: (self.last is not None and task <= self.last, task))
        frames = self.tasks[self.last]
        many = 0
        while frames:
            frame = frames[-1]
            ask = frame.ask
            if ask[0] == "begin":
                many += 1
                if many > QUANTUM:
                    break
                self.go(frame, None)
            elif ask[0] == "receive":
                if self.waits(frame):
                    break
                self.go(frame, self.queues[ask[1]].pop(0))
            elif ask[0] == "send":
                self.outs.append((ask[1], ask[2], self.count))
                self.go(frame, None)
            elif ask[0] == "spawn":
                self.spawn(ask[1], ask[2])
                self.go(frame, None)
            elif ask[0] == "call":
                if len(frames) == DEPTH:
                    self.go(frame, None, Thrown(-5))
                else:
                    frames.append(self.frame(ask[1], ask[2]))
                    self.go(frames[-1], None)
            else:
                frames.pop()
                if frames:
                    self.go(frames[-1], ask[1], Thrown(ask[1]) if ask[0] == "thrown" else None)
                elif ask[0] == "thrown":
                    self.outs.append(("faults", self.last, self.count))
        if not frames:
            del self.tasks[self.last]
        self.count += 1
        return True

    def outputs(self, port):
        rows = [(value, turn) for name, value, turn in self.outs if name == port]
        return [(at + 1, value, turn) for at, (value, turn) in enumerate(rows)]

    def picture(self):
        met = []

        def show(value):
            if not isinstance(value, Rec):
                return value
            if not any(value is other for other in met):
                met.append(value)
            return ("record", [value is other for other in met].index(True))

        tasks = []
        for task in sorted(self.tasks):
            frames = []
            for frame in self.tasks[task]:
                held = tuple(show(value) for value in frame.held)
                names = sorted(Live(frame.function[2]).points[(frame.number, frame.wait)])
                variables = tuple((name, show(frame.variables[name])) for name in names)
                frames.append((frame.function[0], frame.number, frame.wait, held, variables))
            tasks.append((task, tuple(frames)))
        records = []
        for value in met:
            records.append(tuple((field, show(inner)) for field, inner in value.pairs.items()))
        queues = tuple((port, tuple(self.queues[port])) for port in sorted(self.queues) if self.queues[port])
        return (self.last, self.next, tuple(tasks), queues, tuple(records))

    def change(self, program):
        moved = {}
        for task in sorted(self.tasks):
            moved[task] = []
            for depth, frame in enumerate(self.tasks[task]):
                try:
                    moved[task].append(self.moved(frame, program))
                except Refusal as refusal:
                    raise Refusal(task, depth, str(refusal)) from None
        self.tasks = moved
        for frames in moved.values():
            for frame in frames:
                self.go(frame, None)
        self.text = program

    def moved(self, frame, program):
        found = [function for function in program if function[0] == frame.function[0]]
        if not found:
            raise Refusal("gone")
        new = found[0]
        place = frame.number
        if new != frame.function:
            statement = dict(numbered(frame.function[2])).get(frame.number, ("none",))
            if statement[0] != "here":
                raise Refusal("unlabelled")
            rows = [(number, other) for number, other in numbered(new[2]) if other[:2] == statement[:2]]
            if not rows:
                raise Refusal("no label")
            place, other = rows[0]
            if head(statement[2]) != head(other[2]):
                raise Refusal("other")
        before = Live(frame.function[2]).points[(frame.number, frame.wait)]
        after = Live(new[2]).points[(place, frame.wait)]
        if not after <= before:
            raise Refusal("unset")
        variables = {name: frame.variables[name] for name in after}
        return Frame(new, variables, Resume(place, frame.wait, frame.held))


def head(statement):
    if statement[0] in ("if", "while"):
        return statement[:2]
    return ("try",) if statement[0] == "try" else statement
