"""Sound programs for the tests, made at random, that do a lot without ending soon."""

FIELDS = ("a", "b", "c")
PORTS = ("in", "p", "out")
SIGNS = ("+", "-", "*", "/", "mod", "==", "!=", "<", "<=", "and", "or", "and", "or")
NUMBERS = (0, 1, 1, 2, 3, 7, 10 ** 6, 10 ** 12)


class SoundMaker:
    """Makes sound programs; with the same names, programs that are alike in their labels."""

    def __init__(self, random):
        self.random = random

    def program(self, names=("main", "f", "g", "h")):
        self.counts = {name: 0 if name == "main" else self.random.randint(0, 3) for name in names}
        return tuple(self.function(name) for name in names)

    def function(self, name):
        self.free = [letter for letter in "abcdefghijklmnopqrstuvwxyz"]
        self.labels = ["top", "mid", "low", "end" + "less", "sub", "deep", "far", "near"]
        self.scope = []
        self.holders = []
        self.function_name = name
        parameters = tuple(self.name() for _ in range(self.counts[name]))
        self.scope = list(parameters)
        if name == "main":
            body = (*self.block(1, 3), ("while", ("int", 1), (self.attempt(3),)))
        else:
            body = self.block(2, 3)
        return (name, parameters, body)

    def name(self):
        return self.free.pop(0)

    def block(self, depth, most):
        many = len(self.scope)
        body = tuple(self.statement(depth) for _ in range(self.random.randint(0 if depth else 1, most)))
        del self.scope[many:]
        return body

    def statement(self, depth):
        label = None
        if self.labels and self.random.random() < 0.4:
            label = self.labels.pop(self.random.randrange(len(self.labels)))
        inner = self.plain(depth)
        return inner if label is None else ("here", label, inner)

    def plain(self, depth):
        words = ["let", "let", "set", "set", "put", "put", "do", "do", "send", "send", "let"]
        words += ["spawn", "throw", "return"] if self.random.random() < 0.15 else []
        if depth and len(self.free) > 3:
            words += ["if", "while", "try", "try"]
        word = self.random.choice(words)
        if word == "let" and len(self.free) > 1:
            name = self.name()
            value = self.record() if self.random.random() < 0.4 else self.expression(3)
            if value[0] == "new":
                self.holders.append(name)
            self.scope.append(name)
            return ("let", name, value)
        if word == "set" and self.scope:
            return (word, self.random.choice(self.scope), self.expression(3))
        if word == "put" and self.scope:
            record = ("var", self.holder())
            if self.random.random() < 0.3:
                record = ("get", record, self.random.choice(FIELDS))
            return (word, record, self.random.choice(FIELDS), self.expression(2))
        if word == "do":
            return (word, self.call(2))
        if word in ("return", "throw"):
            return (word, self.expression(2))
        if word == "spawn":
            call = self.call(2)
            return (word, call[1], call[2])
        if word == "if":
            return (word, self.expression(2), self.block(depth - 1, 3), self.block(depth - 1, 2))
        if word == "while":
            return (word, self.expression(2), self.block(depth - 1, 3))
        if word == "try":
            return self.attempt(depth - 1)
        return ("send", self.random.choice(PORTS), self.expression(2))

    def attempt(self, depth):
        body = self.block(depth, 3)
        name = self.name()
        self.scope.append(name)
        handler = self.block(depth, 2)
        self.scope.remove(name)
        return ("try", body, name, handler)

    def record(self):
        fields = self.random.sample(FIELDS, self.random.randint(1, 3))
        return ("new", tuple((field, self.expression(1)) for field in fields))

    def holder(self):
        """The name of a variable in scope, of one that began with a record if there is one."""
        return self.random.choice([name for name in self.scope if name in self.holders] or self.scope)

    def call(self, depth):
        # Few calls of the function itself, so that not all goes deeper and deeper.
        names = [name for name in self.counts if name not in ("main", self.function_name)]
        names += [self.function_name] if self.random.random() < 0.1 else []
        name = self.random.choice(names or list(self.counts))
        return ("call", name, tuple(self.expression(depth) for _ in range(self.counts[name])))

    def expression(self, depth):
        roll = self.random.random()
        if depth == 0 or roll < 0.35:
            if self.scope and roll < 0.25:
                return ("var", self.random.choice(self.scope))
            if self.random.random() < 0.1:
                return ("none",)
            return ("int", self.random.choice(NUMBERS))
        if roll < 0.5:
            return ("receive", self.random.choice(PORTS))
        if roll < 0.58:
            return self.call(depth - 1)
        if roll < 0.66:
            fields = self.random.sample(FIELDS, self.random.randint(0, 3))
            return ("new", tuple((field, self.expression(depth - 1)) for field in fields))
        if roll < 0.7:
            inner = ("var", self.holder()) if self.scope else self.expression(depth - 1)
            return ("get", inner, self.random.choice(FIELDS))
        if roll < 0.75:
            return (self.random.choice(("neg", "not")), self.expression(depth - 1))
        return ("op", self.random.choice(SIGNS), self.expression(depth - 1), self.expression(depth - 1))

    def edited(self, function):
        """The same function with a few statements more, less, or in other places, at any depth."""
        name, parameters, body = function
        self.free = ["x", "y", "z", "xx", "yy", "zz"]
        self.labels = ["new" + "er", "newest"]
        self.scope = list(parameters)
        self.holders = []
        self.function_name = name
        return (name, parameters, self.edited_block(body))

    def edited_block(self, body):
        statements = []
        for statement in body:
            roll = self.random.random()
            if roll < 0.06:
                statements.append(self.plain(0))
            if 0.06 <= roll < 0.1:
                continue
            statements.append(self.edited_statement(statement))
        if self.random.random() < 0.05:
            self.random.shuffle(statements)
        return tuple(statements)

    def edited_statement(self, statement):
        if statement[0] == "here":
            return (*statement[:2], self.edited_statement(statement[2]))
        if statement[0] in ("if", "while"):
            return (*statement[:2], *(self.edited_block(body) for body in statement[2:]))
        if statement[0] == "try":
            return ("try", self.edited_block(statement[1]), statement[2], self.edited_block(statement[3]))
        if self.random.random() < 0.01:
            return self.plain(0)
        return statement
