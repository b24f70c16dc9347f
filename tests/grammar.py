"""An oracle for read: the grammar as the document prints it, followed by every way at once.

It shares nothing with the package. place(text) is None for the text of a program, otherwise the place
that BadText must tell.
"""

import re

GRAMMAR = """
program    = { "func" NAME "(" [ NAME { "," NAME } ] ")" block "end" }
block      = { statement }
statement  = "let" NAME "=" expr | NAME { "." NAME } "=" expr | NAME "(" args ")"
           | "if" expr block [ "else" block ] "end" | "while" expr block "end"
           | "return" expr | "throw" expr | "send" NAME expr | "spawn" NAME "(" args ")"
           | "try" block "catch" NAME block "end" | "here" NAME plain
args       = [ expr { "," expr } ]
expr       = join { "or" join }
join       = test { "and" test }
test       = sum [ ( "==" | "!=" | "<" | "<=" ) sum ]
sum        = term { ( "+" | "-" ) term }
term       = sign { ( "*" | "/" | "mod" ) sign }
sign       = "-" sign | "not" sign | item { "." NAME }
item       = INTEGER | "none" | NAME | NAME "(" args ")" | "(" expr ")" | "receive" NAME
           | "new" "(" [ NAME ":" expr { "," NAME ":" expr } ] ")"
"""

KEYWORDS = (
    "func end let if else while return send spawn try catch throw here new receive none and or not mod"
).split()


class Rules:
    """The grammar as plain rules: a dict from a name to the list of its rows of symbols."""

    def __init__(self):
        self.rows = {}
        words = re.findall(r'"[^"]+"|[A-Za-z]+|[=|{}()\[\]]', GRAMMAR)
        self.words = words
        self.at = 0
        while self.at < len(words):
            name = words[self.at]
            self.at += 2
            self.rows[name] = self.choice()
        # A plain is a statement other than here.
        self.rows["plain"] = [row for row in self.rows["statement"] if row[0] != '"here"']

    def choice(self):
        found = [self.row()]
        while self.at < len(self.words) and self.words[self.at] == "|":
            self.at += 1
            found.append(self.row())
        return found

    def row(self):
        found = []
        while self.at < len(self.words) and self.words[self.at] not in ("|", "}", "]", ")"):
            if self.words[self.at + 1:self.at + 2] == ["="]:
                break
            found.append(self.part())
        return found

    def part(self):
        word = self.words[self.at]
        self.at += 1
        if word not in ("{", "[", "("):
            return word
        rows = self.choice()
        self.at += 1
        name = f"part{len(self.rows)}"
        self.rows[name] = rows
        if word == "{":
            self.rows[name] = [[]] + [row + [name] for row in rows]
        if word == "[":
            self.rows[name] = [[]] + rows
        return name


RULES = Rules().rows


def kinds(text):
    """The list of the pairs (kind, place) of the tokens, and the place where none begins, or None."""
    found = []
    at = 0
    joined = False
    while at < len(text):
        if text[at] in " \n":
            at += 1
            joined = False
            continue
        match = re.compile(r"[a-z]+|[0-9]+|==|!=|<=|[(),:.=<+*/-]").match(text, at)
        if not match:
            return found, at
        word = match.group()
        is_run = re.fullmatch("[a-z]+|[0-9]+", word) is not None
        if is_run and joined:
            return found, at
        if word.isalpha():
            if len(word) > 12:
                return found, at
            kind = f'"{word}"' if word in KEYWORDS else "NAME"
        elif word.isdigit():
            if str(int(word)) != word or int(word) > 10 ** 12:
                return found, at
            kind = "INTEGER"
        else:
            kind = f'"{word}"'
        found.append((kind, at))
        joined = is_run
        at = match.end()
    return found, None


def closed(start, ways, behind):
    """All states that follow from these: (name, row, dot, origin), with the place behind."""
    found = dict.fromkeys(start)
    left = list(start)
    while left:
        name, row, dot, origin = left.pop()
        more = []
        if dot == len(row):
            for state in list(ways[origin]) if origin < behind else list(found):
                if state[2] < len(state[1]) and state[1][state[2]] == name:
                    more.append((state[0], state[1], state[2] + 1, state[3]))
        elif row[dot] in RULES:
            for other in RULES[row[dot]]:
                more.append((row[dot], tuple(other), 0, behind))
            # What is predicted may have been found empty already.
            if (row[dot], behind) in {(s[0], s[3]) for s in found if s[2] == len(s[1])}:
                more.append((name, row, dot + 1, origin))
        for state in more:
            if state not in found:
                found[state] = None
                left.append(state)
    return found


def place(text):
    tokens, bad = kinds(text)
    ways = [closed([("all", ("program",), 0, 0)], [], 0)]
    for at, (kind, where) in enumerate(tokens):
        moved = [(n, r, d + 1, o) for n, r, d, o in ways[at] if d < len(r) and r[d] == kind]
        if not moved:
            return where
        ways.append(closed(moved, ways, at + 1))
    if bad is not None:
        return bad
    return None if ("all", ("program",), 1, 0) in ways[-1] else len(text)
