"""Functions as rows of steps.

The steps work on a stack: the values that the statement has computed and still needs. Each point of
a function is the place of a step: ("begin",) at a statement, and the call or the receive at a wait.
"""

from lastingrun.writing import program_lines, statement_lines


class Code:
    """A function as a row of steps."""

    def __init__(self, function):
        self.name, self.parameters, body = function
        self.text = "\n".join(program_lines([function]))
        self.steps = []
        # For each step the number of the innermost try whose body it belongs to, or None.
        self.tries = []
        # For each step its point, or None; and the other way round.
        self.points = []
        self.places = {}
        # Where the handler of a try begins, by the number of the try.
        self.catches = {}
        # The statements by their numbers, without here; and the labels both ways.
        self.statements = []
        self.numbers = {}
        self.labels = {}
        # What is live at each step is found out when it is asked for first.
        self.live_names = None
        Coder(self).function(body)

    def catch_place(self, place):
        """Where a throw at this step leads within the function, or None."""
        return self.catches.get(self.tries[place])

    def head(self, number):
        """The text of a statement without the blocks in it."""
        return statement_lines(self.statements[number], "", "")[0]


class Coder:
    """Makes the steps of one function, in the order of its text."""

    def __init__(self, code):
        self.code = code
        self.number = 0
        self.next_wait = 0
        # The number of the innermost try whose body is under way.
        self.inside = None

    def add(self, *step):
        """Adds a step that is no point; returns its place."""
        self.code.steps.append(step)
        self.code.tries.append(self.inside)
        self.code.points.append(None)
        return len(self.code.steps) - 1

    def add_point(self, wait, *step):
        """Adds a step that is a point of the present statement; returns its place."""
        place = self.add(*step)
        self.code.points[place] = (self.number, wait)
        self.code.places[(self.number, wait)] = place
        return place

    def aim(self, place):
        """Makes the step at this place lead to the next one that is added."""
        self.code.steps[place] = (self.code.steps[place][0], len(self.code.steps))

    def function(self, body):
        self.block(body)
        if body:
            self.add("push", None)
        else:
            # A function without statements has a point all the same.
            self.add_point(None, "push", None)
        self.add("return")

    def block(self, body):
        for statement in body:
            self.statement(statement)

    def statement(self, statement):
        number = len(self.code.statements)
        if statement[0] == "here":
            _, label, statement = statement
            self.code.numbers[label] = number
            self.code.labels[number] = label
        self.code.statements.append(statement)
        self.number = number
        self.next_wait = 0
        place = self.add_point(None, "begin")
        self.plain(place, statement)

    def plain(self, place, statement):
        """Adds what follows the step at this place, with which a statement begins."""
        match statement:
            case ("if", test, body, other):
                self.choice(test, body, other)
            case ("while", test, body):
                self.loop(place, test, body)
            case ("try", body, name, handler):
                self.attempt(body, name, handler)
            case ("put", record, field, value):
                self.expression(record)
                self.expression(value)
                self.add("put", field)
            case ("send", port, value):
                self.expression(value)
                self.add("send", port)
            case ("spawn", name, values):
                self.expressions(values)
                self.add("spawn", name, len(values))
            case ("do", call):
                self.expression(call)
                self.add("drop")
            case (_, name, value):
                # What is left with a name are let and set.
                self.expression(value)
                self.add("store", name)
            case (word, value):
                # What is left are return and throw.
                self.expression(value)
                self.add(word)

    def choice(self, test, body, other):
        """The rest of an if."""
        self.expression(test)
        skip = self.add("skip", None)
        self.block(body)
        jump = self.add("jump", None)
        self.aim(skip)
        self.block(other)
        self.aim(jump)

    def loop(self, place, test, body):
        """The rest of a while, which begins at this place."""
        self.expression(test)
        skip = self.add("skip", None)
        self.block(body)
        self.add("jump", place)
        self.aim(skip)

    def attempt(self, body, name, handler):
        """The rest of a try."""
        number = self.number
        outside = self.inside
        self.inside = number
        self.block(body)
        self.inside = outside
        jump = self.add("jump", None)
        # What was thrown is on the stack when the handler begins.
        self.code.catches[number] = self.add("store", name)
        self.block(handler)
        self.aim(jump)

    def expressions(self, trees):
        for tree in trees:
            self.expression(tree)

    def expression(self, tree):
        """Adds the steps that push the value of an expression."""
        # A loop, because a long sum goes deep on its left.
        outer = []
        while tree[0] in ("op", "get", "neg", "not"):
            outer.append(tree)
            tree = tree[2] if tree[0] == "op" else tree[1]
        self.item(tree)
        for part in reversed(outer):
            self.operation(part)

    def operation(self, tree):
        """Adds what follows the first operand of an operator, or the value whose field is wanted."""
        match tree:
            case ("op", "and", _, right):
                self.way_around("and", right)
            case ("op", "or", _, right):
                self.way_around("or", right)
            case ("op", sign, _, right):
                self.expression(right)
                self.add("op", sign)
            case ("get", _, field):
                self.add("get", field)
            case (word, _):
                # What is left are neg and not.
                self.add(word)

    def way_around(self, word, right):
        """Adds a right side that may be skipped."""
        place = self.add(word, None)
        self.expression(right)
        self.aim(place)

    def item(self, tree):
        match tree:
            case ("int", number):
                self.add("push", number)
            case ("none",):
                self.add("push", None)
            case ("var", name):
                self.add("load", name)
            case ("receive", port):
                self.add_point(self.take_wait(), "receive", port)
            case ("call", name, values):
                # The name stands before the arguments, and waits are counted by their places.
                wait = self.take_wait()
                self.expressions(values)
                self.add_point(wait, "call", name, len(values))
            case ("new", pairs):
                self.expressions([value for _, value in pairs])
                self.add("new", tuple([field for field, _ in pairs]))

    def take_wait(self):
        """The number of the next wait of the present statement."""
        self.next_wait += 1
        return self.next_wait - 1


def codes_of(program):
    """The Code of each function of a sound program, by its name."""
    return {function[0]: Code(function) for function in program}
