"""Programs for the tests: made at random from a seed, and lists for tuples."""

OPERATORS = ("or", "and", "==", "!=", "<", "<=", "+", "-", "*", "/", "mod")
NAMES = ("a", "b", "abc", "letter", "endless", "twelveletter")
INTEGERS = (0, 1, 7, 10, 999, 10 ** 12)


def as_lists(tree):
    """The same tree with a list for each tuple."""
    if isinstance(tree, tuple):
        return [as_lists(part) for part in tree]
    return tree


class Maker:
    """Makes trees that some text has, of at most the depth that is asked for."""

    def __init__(self, random):
        self.random = random

    def name(self):
        return self.random.choice(NAMES)

    def many(self, part, most):
        return tuple(part() for _ in range(self.random.randint(0, most)))

    def program(self, depth):
        return self.many(lambda: (self.name(), self.many(self.name, 3), self.block(depth)), 3)

    def block(self, depth):
        return self.many(lambda: self.statement(depth), 3)

    def statement(self, depth):
        if self.random.random() < 0.2:
            return ("here", self.name(), self.plain(depth))
        return self.plain(depth)

    def plain(self, depth):
        words = ["let", "set", "put", "do", "return", "throw", "send", "spawn"]
        if depth > 0:
            words += ["if", "while", "try"] * 2
        word = self.random.choice(words)
        inner = depth - 1
        if word in ("let", "set", "send"):
            return (word, self.name(), self.expression(3))
        if word == "put":
            record = ("var", self.name())
            for _ in range(self.random.randint(0, 2)):
                record = ("get", record, self.name())
            return (word, record, self.name(), self.expression(3))
        if word == "do":
            return (word, self.call(2))
        if word in ("return", "throw"):
            return (word, self.expression(3))
        if word == "spawn":
            return (word, self.name(), self.many(lambda: self.expression(2), 3))
        if word == "if":
            return (word, self.expression(2), self.block(inner), self.block(inner))
        if word == "while":
            return (word, self.expression(2), self.block(inner))
        return (word, self.block(inner), self.name(), self.block(inner))

    def call(self, depth):
        return ("call", self.name(), self.many(lambda: self.expression(depth), 3))

    def expression(self, depth):
        words = ["int", "none", "var", "receive"]
        if depth > 0:
            words = words[:3] + ["call", "receive", "new", "get", "neg", "not"] + ["op"] * 6
        word = self.random.choice(words)
        inner = depth - 1
        if word == "int":
            return (word, self.random.choice(INTEGERS))
        if word == "none":
            return (word,)
        if word in ("var", "receive"):
            return (word, self.name())
        if word == "call":
            return self.call(inner)
        if word == "new":
            return (word, self.many(lambda: (self.name(), self.expression(inner)), 3))
        if word == "get":
            return (word, self.expression(inner), self.name())
        if word in ("neg", "not"):
            return (word, self.expression(inner))
        return (word, self.random.choice(OPERATORS), self.expression(inner), self.expression(inner))
