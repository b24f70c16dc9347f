import copy
import random
import unittest

from trees import Maker, as_lists

from lastingrun.errors import BadText
from lastingrun.text import read, write

NESTED = """func main()
  let a = 1
  if a < 2
    here top while a
      a = a - 1
    end
    here out if a
      f()
    else
      if none
      end
    end
  else
    here t try
      throw -1
    catch e
      send p e.x
    end
  end
end
func f()
end
func g(a, b)
  try
    try
    catch e
      a.b.c = new(a: b, c: new())
    end
  catch f
  end
  while f(a, g(1), none)
  end
  spawn f()
  here stop return receive p
end"""

# Each is the text that write gives for its own tree.
EXPRESSIONS = (
    "0", "1", "1000000000000", "none", "a", "f()", "f(a)", "f(a, b + c, g(1))", "receive p",
    "new()", "new(a: 1)", "new(a: b, c: f(1), a: new())",
    "a.b", "a.b.c.d", "1.a", "none.a", "f(1).a", "receive p.a", "new(a: 1).a", "(a + b).c", "(-a).b",
    "(not a).b", "(a or b).c.d", "-a.b", "not a.b", "(-1).a", "-1.a",
    "-1", "--a", "---a", "not a", "not not a", "-not a", "not -a", "-(a + b)", "-(a * b)", "not (a and b)",
    "not (a == b)", "not a == b", "-a * b", "a * -b", "a - -b", "a - -(b - c)", "a and not b", "-f(a)",
    "not (a or b).c", "(not a).b", "-(-a).b", "not none",
    "a + b", "a + b - c", "a - (b + c)", "a - (b - c)", "a * b / c mod d", "a * (b / c)", "a mod (b mod c)",
    "a + b * c", "(a + b) * c", "a * (b + c)", "a * b + c", "a / (b * c) - d",
    "a == b", "(a == b) == c", "a == (b == c)", "(a < b) <= (c != d)", "a + b < c * d", "(a < b) + 1",
    "1 - (a <= b)", "a < -b", "not a < not b", "(a and b) < c", "a != (b or c)",
    "a and b and c", "a and (b and c)", "a or b or c", "a or (b or c)", "a or b and c", "(a or b) and c",
    "a and b or c", "a and (b or c)", "a < b and c == d or e", "a and (b or c) and d", "(a or b) * c",
    "f((a or b) and c)", "new(a: (a or b) and c)", "f(a or b)", "f(-1, not a)", "a.b + c.d",
)


def expression(text):
    return read(f"func f() let x = {text} end")[0][2][0][2]


def written(tree):
    """The text of an expression, as write gives it."""
    begin, end = "func f()\n  let x = ", "\nend"
    text = write((("f", (), (("let", "x", tree),)),))
    assert text.startswith(begin) and text.endswith(end)
    return text[len(begin):-len(end)]


def without_pair(text, at):
    """The text without the parenthesis at this place and the one that belongs to it."""
    deep = 0
    for behind in range(at, len(text)):
        deep += {"(": 1, ")": -1}.get(text[behind], 0)
        if deep == 0:
            return f"{text[:at]} {text[at + 1:behind]} {text[behind + 1:]}"
    raise AssertionError(text)


class WriteTest(unittest.TestCase):
    def test_example(self):
        program = read("func main() while 1 here top let n=receive in send out (n+1)*2 end end")
        wanted = "func main()\n  while 1\n    here top let n = receive in\n    send out (n + 1) * 2\n  end\nend"
        self.assertEqual(write(program), wanted)
        self.assertEqual(write(program=program), wanted)

    def test_no_functions(self):
        self.assertEqual(write(()), "")
        self.assertEqual(write([]), "")

    def test_functions(self):
        program = (("f", (), ()), ("g", ("a",), ()), ("h", ("a", "b", "c"), (("return", ("none",)),)))
        self.assertEqual(write(program), "func f()\nend\nfunc g(a)\nend\nfunc h(a, b, c)\n  return none\nend")

    def test_nested(self):
        self.assertEqual(write(read(NESTED)), NESTED)
        self.assertEqual(write(read(NESTED.replace("\n", " "))), NESTED)

    def test_statements(self):
        for text in (
            "let a = b", "a = b", "a.b = c", "a.b.c = x", "a.b.c.d = -x", "f()", "f(a, 1)", "if a\n  end",
            "if a\n    f()\n  end", "if a\n  else\n    f()\n  end", "if a\n    f()\n  else\n    g()\n  end",
            "while a\n  end", "while a\n    f()\n    g()\n  end", "return a", "return -a", "return (a + b).c",
            "throw none", "send p a", "send p -a", "send p (a + b) * c", "send p not a", "spawn f()",
            "spawn f(a, b)", "try\n  catch e\n  end", "try\n    f()\n  catch e\n    throw e\n  end",
        ):
            for label in ("", "here top "):
                whole = f"func f()\n  {label}{text}\nend"
                with self.subTest(whole):
                    self.assertEqual(write(read(whole)), whole)

    def test_statement_trees(self):
        a, one = ("var", "a"), ("int", 1)
        wanted = {
            ("let", "a", one): "let a = 1",
            ("set", "a", one): "a = 1",
            ("put", a, "b", one): "a.b = 1",
            ("put", ("get", a, "b"), "c", one): "a.b.c = 1",
            ("do", ("call", "f", (a,))): "f(a)",
            ("return", a): "return a",
            ("throw", a): "throw a",
            ("send", "p", a): "send p a",
            ("spawn", "f", (a, one)): "spawn f(a, 1)",
            ("if", a, (), ()): "if a\n  end",
            ("if", a, (), (("throw", a),)): "if a\n  else\n    throw a\n  end",
            ("while", a, ()): "while a\n  end",
            ("try", (), "e", ()): "try\n  catch e\n  end",
            ("here", "l", ("while", a, (("here", "m", ("throw", a)),))): "here l while a\n    here m throw a\n  end",
        }
        for tree, text in wanted.items():
            with self.subTest(text):
                self.assertEqual(write((("f", (), (tree,)),)), f"func f()\n  {text}\nend")

    def test_eight_blocks(self):
        for deep in (8, 12):
            tree = ()
            for _ in range(deep):
                tree = (("while", ("int", 1), tree),)
            lines = write((("f", (), tree),)).split("\n")
            margins = [len(line) - len(line.lstrip()) for line in lines]
            half = list(range(0, 2 * deep + 1, 2))
            self.assertEqual(margins, half + half[::-1])

    def test_expressions(self):
        for text in EXPRESSIONS:
            with self.subTest(text):
                self.assertEqual(written(expression(text)), text)

    def test_parentheses_that_are_not_needed(self):
        wanted = {
            "(a)": "a", "((1))": "1", "(a.b).c": "a.b.c", "(1).b": "1.b", "(f(a)).b": "f(a).b",
            "(receive p).b": "receive p.b", "(new(a: 1)).a": "new(a: 1).a", "(none).a": "none.a",
            "-(1)": "-1", "-(-a)": "--a", "not (not a)": "not not a", "-(a.b)": "-a.b", "-(not a)": "-not a",
            "(-a) * b": "-a * b", "a * (-b)": "a * -b", "(not a) == b": "not a == b", "a + (not b)": "a + not b",
            "(a + b) - c": "a + b - c", "(a * b) + c": "a * b + c", "a + (b * c)": "a + b * c",
            "(a + b) < (c + d)": "a + b < c + d", "(a < b) and (c < d)": "a < b and c < d",
            "(a and b) or (c and d)": "a and b or c and d", "(a or b) or c": "a or b or c",
            "f((a))": "f(a)", "new(a: (b or c))": "new(a: b or c)",
        }
        for text, short in wanted.items():
            with self.subTest(text):
                self.assertEqual(written(expression(text)), short)

    def test_every_operator_below_every_operator(self):
        words = ("or", "and", "==", "!=", "<", "<=", "+", "-", "*", "/", "mod")
        for outer in words:
            for inner in words:
                for left in (True, False):
                    part = ("op", inner, ("var", "a"), ("var", "b"))
                    other = ("neg", ("var", "c"))
                    self.check(("op", outer, part, other) if left else ("op", outer, other, part))
            self.check(("neg", ("op", outer, ("int", 1), ("none",))))
            self.check(("not", ("op", outer, ("int", 1), ("none",))))
            self.check(("get", ("op", outer, ("int", 1), ("none",)), "a"))

    def check(self, tree):
        """The text has the tree, and no pair of its parentheses can be left out."""
        text = f"func f() let x = {written(tree)} end"
        self.assertEqual(read(text), (("f", (), (("let", "x", tree),)),))
        for at in range(len("func f()"), len(text)):
            if text[at] == "(":
                with self.subTest(text):
                    self.assertNotEqual(self.read_or_none(without_pair(text, at)), read(text))

    def read_or_none(self, text):
        try:
            return read(text)
        except BadText:
            return None

    def test_random_expressions(self):
        maker = Maker(random.Random(1))
        for _ in range(400):
            self.check(maker.expression(3))

    def test_random_programs(self):
        maker = Maker(random.Random(2))
        for _ in range(150):
            program = maker.program(3)
            before = copy.deepcopy(program)
            text = write(program)
            self.assertEqual(read(text), program)
            self.assertEqual(write(read(text)), text)
            self.assertEqual(write(read(text.replace("\n", " \n "))), text)
            self.assertEqual(program, before)
            self.assertFalse(text.endswith("\n"))
            self.assertNotIn("\n\n", text)

    def test_lists(self):
        maker = Maker(random.Random(3))
        for program in [maker.program(3) for _ in range(50)] + [read(NESTED)]:
            lists = as_lists(program)
            before = copy.deepcopy(lists)
            self.assertEqual(write(lists), write(program))
            self.assertEqual(lists, before)
            # A tuple of lists, and a list of tuples.
            self.assertEqual(write(tuple(lists)), write(program))
            self.assertEqual(write(list(program)), write(program))

    def test_a_long_sum(self):
        text = "func f()\n  let x = " + " - ".join(["a"] * 300) + "\nend"
        self.assertEqual(write(read(text)), text)

    def test_a_long_chain(self):
        text = "func f()\n  let x = a" + ".b" * 300 + "\n  x" + ".c" * 300 + " = 1\nend"
        self.assertEqual(write(read(text)), text)


if __name__ == "__main__":
    unittest.main()
