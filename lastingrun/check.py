"""The faults of programs."""


class FunctionCheck:
    """A way through one function in the order of its text; marks are pairs (number, word)."""

    def __init__(self, counts):
        # How many parameters each function of the program has.
        self.counts = counts
        self.marks = []
        self.next_number = 0
        self.variables = {}
        self.labels = {}
        # The variables in scope, those of the innermost block last.
        self.scope = []

    def mark(self, number, word):
        self.marks.append((number, word))

    def function(self, parameters, body):
        for name in parameters:
            self.name_variable(-1, name)
            self.scope.append(name)
        self.block(body)

    def name_variable(self, number, name):
        """Looks at the place where a variable gets its name, which is not yet in scope there."""
        if name in self.variables:
            self.mark(number, "twice")
        self.variables[name] = True

    def block(self, body):
        """Looks at a block, with which the scopes of its variables end."""
        many = len(self.scope)
        for statement in body:
            self.statement(statement)
        del self.scope[many:]

    def statement(self, statement):
        number = self.next_number
        self.next_number += 1
        if statement[0] == "here":
            _, label, inner = statement
            if label in self.labels:
                self.mark(number, "twice")
            self.labels[label] = True
            self.plain(number, inner)
        else:
            self.plain(number, statement)

    def plain(self, number, statement):
        """Looks at a statement other than here."""
        match statement:
            case ("let", name, value):
                self.name_variable(number, name)
                self.expression(number, value)
                self.scope.append(name)
            case ("set", name, value):
                self.variable(number, name)
                self.expression(number, value)
            case ("put", record, _, value):
                self.expression(number, record)
                self.expression(number, value)
            case ("if", test, body, other):
                self.expression(number, test)
                self.block(body)
                self.block(other)
            case ("while", test, body):
                self.expression(number, test)
                self.block(body)
            case ("try", body, name, handler):
                self.block(body)
                self.handler(number, name, handler)
            case ("send", _, value):
                self.expression(number, value)
            case ("spawn", name, values):
                self.expression(number, ("call", name, values))
            case (_, value):
                # What is left are do, return and throw.
                self.expression(number, value)

    def handler(self, number, name, body):
        """Looks at what stands behind catch; the number is that of the try."""
        self.name_variable(number, name)
        self.scope.append(name)
        self.block(body)
        self.scope.pop()

    def expression(self, number, tree):
        # A list of what is left to look at, because a long sum goes deep on its left.
        rest = [tree]
        while rest:
            match rest.pop():
                case ("var", name):
                    self.variable(number, name)
                case ("call", name, values):
                    self.call(number, name, len(values))
                    rest.extend(values[::-1])
                case ("new", pairs):
                    self.new(number, pairs)
                case ("get", inner, _):
                    rest.append(inner)
                case ("neg", inner):
                    rest.append(inner)
                case ("not", inner):
                    rest.append(inner)
                case ("op", _, left, right):
                    rest.append(right)
                    rest.append(left)

    def variable(self, number, name):
        """Looks at a place where a variable is read or set."""
        if name not in self.scope:
            self.mark(number, "unknown")

    def call(self, number, name, many):
        """Looks at the name of a function that is called with so many arguments."""
        if name not in self.counts:
            self.mark(number, "unknown")
        elif many != self.counts[name]:
            self.mark(number, "many")

    def new(self, number, pairs):
        fields = {}
        for field, value in pairs:
            if field in fields:
                self.mark(number, "twice")
            fields[field] = True
            self.expression(number, value)


def parameter_counts(program):
    """How many parameters each function has; of those with one name the first one counts."""
    counts = {}
    for name, parameters, _ in program:
        if name not in counts:
            counts[name] = len(parameters)
    return counts


def faults(program):
    """The list of the faults of a PROGRAM, as triples (function, number, word)."""
    counts = parameter_counts(program)
    found = []
    if counts.get("main") != 0:
        found.append(("", -1, "main"))
    names = {}
    for name, parameters, body in program:
        check = FunctionCheck(counts)
        if name in names:
            check.mark(-1, "twice")
        names[name] = True
        check.function(parameters, body)
        # The name after catch is met behind statements with greater numbers.
        marks = sorted(check.marks, key=lambda mark: mark[0])
        found.extend([(name, number, word) for number, word in marks])
    # A dict keeps each triple once, where it comes first.
    return list({triple: True for triple in found})
