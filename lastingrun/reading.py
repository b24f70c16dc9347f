"""From the text of a program to its tree."""

from lastingrun.errors import BadText
from lastingrun.operators import LEVELS, SIGN_LEVEL, left_floor, right_floor
from lastingrun.tokens import INTEGER, NAME, OVER, Tokens

STATEMENT_WORDS = ("let", "if", "while", "return", "throw", "send", "spawn", "try", "here")


class Reader:
    """Reads a text. Each method reads what it is named after, and stops at the token behind it.

    Each choice is made by the present token alone, so a token is refused just where no text of a
    program goes on with it.
    """

    def __init__(self, text):
        self.tokens = Tokens(text)

    def take(self, kind):
        """Goes beyond the present token, which must be of this kind; returns its worth."""
        if self.tokens.kind != kind:
            raise BadText(self.tokens.at)
        worth = self.tokens.worth
        self.tokens.step()
        return worth

    def skip(self, kind):
        """Goes beyond the present token if it is of this kind; returns whether it is."""
        if self.tokens.kind != kind:
            return False
        self.tokens.step()
        return True

    def row(self, part):
        """A tuple of parts, in parentheses and with commas; each is read by a call of part."""
        self.take("(")
        if self.skip(")"):
            return ()
        parts = [part()]
        while self.skip(","):
            parts.append(part())
        self.take(")")
        return tuple(parts)

    def program(self):
        functions = []
        while self.skip("func"):
            functions.append(self.function())
        self.take(OVER)
        return tuple(functions)

    def function(self):
        name = self.take(NAME)
        parameters = self.row(lambda: self.take(NAME))
        body = self.block()
        self.take("end")
        return (name, parameters, body)

    def block(self):
        statements = []
        while self.tokens.kind == NAME or self.tokens.kind in STATEMENT_WORDS:
            statements.append(self.statement())
        return tuple(statements)

    def statement(self):
        if self.skip("here"):
            label = self.take(NAME)
            return ("here", label, self.plain())
        return self.plain()

    def plain(self):
        """A statement other than here."""
        if self.skip("let"):
            name = self.take(NAME)
            self.take("=")
            return ("let", name, self.expression())
        if self.skip("if"):
            return self.choice()
        if self.skip("while"):
            return self.loop()
        if self.skip("return"):
            return ("return", self.expression())
        if self.skip("throw"):
            return ("throw", self.expression())
        if self.skip("send"):
            port = self.take(NAME)
            return ("send", port, self.expression())
        if self.skip("spawn"):
            name = self.take(NAME)
            return ("spawn", name, self.arguments())
        if self.skip("try"):
            return self.attempt()
        return self.named()

    def choice(self):
        """The rest of an if."""
        test = self.expression()
        body = self.block()
        other = self.block() if self.skip("else") else ()
        self.take("end")
        return ("if", test, body, other)

    def loop(self):
        """The rest of a while."""
        test = self.expression()
        body = self.block()
        self.take("end")
        return ("while", test, body)

    def attempt(self):
        """The rest of a try."""
        body = self.block()
        self.take("catch")
        name = self.take(NAME)
        handler = self.block()
        self.take("end")
        return ("try", body, name, handler)

    def named(self):
        """A statement that begins with a name: a call or an assignment."""
        name = self.take(NAME)
        if self.tokens.kind == "(":
            return ("do", ("call", name, self.arguments()))
        tree = ("var", name)
        fields = self.fields()
        self.take("=")
        if not fields:
            return ("set", name, self.expression())
        for field in fields[:-1]:
            tree = ("get", tree, field)
        return ("put", tree, fields[-1], self.expression())

    def fields(self):
        """The list of the fields, each behind a dot."""
        names = []
        while self.skip("."):
            names.append(self.take(NAME))
        return names

    def arguments(self):
        return self.row(lambda: self.expression())

    def pair(self):
        """A field of a new and its expression."""
        field = self.take(NAME)
        self.take(":")
        return (field, self.expression())

    def expression(self, floor=0):
        """The longest expression whose operators are at least of this level."""
        tree = self.signed()
        level = SIGN_LEVEL
        while self.goes_on(floor, level):
            word = self.tokens.kind
            self.tokens.step()
            tree = ("op", word, tree, self.expression(right_floor(word)))
            level = LEVELS[word]
        return tree

    def goes_on(self, floor, level):
        """Whether an operator of at least the level floor follows that takes this level to its left."""
        word = self.tokens.kind
        return word in LEVELS and LEVELS[word] >= floor and level >= left_floor(word)

    def signed(self):
        """An item with its fields and the signs before it."""
        kinds = []
        while self.tokens.kind in ("-", "not"):
            kinds.append("neg" if self.tokens.kind == "-" else "not")
            self.tokens.step()
        tree = self.item()
        for field in self.fields():
            tree = ("get", tree, field)
        for kind in reversed(kinds):
            tree = (kind, tree)
        return tree

    def item(self):
        if self.tokens.kind == INTEGER:
            return ("int", self.take(INTEGER))
        if self.skip("none"):
            return ("none",)
        if self.skip("receive"):
            return ("receive", self.take(NAME))
        if self.skip("new"):
            return ("new", self.row(lambda: self.pair()))
        if self.skip("("):
            tree = self.expression()
            self.take(")")
            return tree
        name = self.take(NAME)
        if self.tokens.kind == "(":
            return ("call", name, self.arguments())
        return ("var", name)
