import random
import unittest

import grammar
from trees import Maker

from lastingrun.errors import BadText
from lastingrun.text import read, write

LIMIT = 10 ** 12


def body(text):
    """The body of a function with these statements."""
    program = read(f"func main() {text} end")
    assert program[0][:2] == ("main", ()) and len(program) == 1
    return program[0][2]


def expression(text):
    ((_, _, value),) = body(f"let x = {text}")
    return value


def v(name):
    return ("var", name)


def i(number):
    return ("int", number)


class ReadCase(unittest.TestCase):
    def wrong(self, text, at):
        with self.assertRaises(BadText) as caught:
            read(text)
        self.assertEqual((text, caught.exception.at), (text, at))
        # The oracle must agree, else the test itself is wrong.
        self.assertEqual((text, grammar.place(text)), (text, at))

    def wrong_at_mark(self, text):
        """The text with the mark @ taken out is wrong at the mark."""
        at = text.index("@")
        self.wrong(text[:at] + text[at + 1:], at)


class ProgramTest(ReadCase):
    def test_example(self):
        wanted = (("main", (), (
            ("let", "a", i(1)),
            ("send", "out", ("op", "+", v("a"), i(2))),
        )),)
        self.assertEqual(read("func main() let a = 1 send out a + 2 end"), wanted)

    def test_by_name(self):
        self.assertEqual(read(text="func f() end"), (("f", (), ()),))

    def test_no_functions(self):
        for text in ("", " ", "\n", "  \n \n\n "):
            self.assertEqual(read(text), ())

    def test_functions(self):
        text = "func f() end func g(a) end func h(a, b, a) return a end func f() end"
        self.assertEqual(read(text), (
            ("f", (), ()),
            ("g", ("a",), ()),
            ("h", ("a", "b", "a"), (("return", v("a")),)),
            ("f", (), ()),
        ))

    def test_only_tuples(self):
        text = "func f(a) if new(a: g(1)) here x g(1, 2) else try catch e end end end"

        def look(part):
            self.assertIsInstance(part, (tuple, str, int))
            if isinstance(part, tuple):
                for inner in part:
                    look(inner)
        look(read(text))


class StatementTest(ReadCase):
    def test_one_each(self):
        wanted = {
            "let a = b": ("let", "a", v("b")),
            "a = b": ("set", "a", v("b")),
            "a.b = c": ("put", v("a"), "b", v("c")),
            "a.b.c = x": ("put", ("get", v("a"), "b"), "c", v("x")),
            "a.b.c.d = x": ("put", ("get", ("get", v("a"), "b"), "c"), "d", v("x")),
            "f()": ("do", ("call", "f", ())),
            "f(a)": ("do", ("call", "f", (v("a"),))),
            "f(a, 1)": ("do", ("call", "f", (v("a"), i(1)))),
            "if a end": ("if", v("a"), (), ()),
            "if a else end": ("if", v("a"), (), ()),
            "if a b = 1 end": ("if", v("a"), (("set", "b", i(1)),), ()),
            "if a else b = 1 end": ("if", v("a"), (), (("set", "b", i(1)),)),
            "while a end": ("while", v("a"), ()),
            "while a f() g() end": ("while", v("a"), (("do", ("call", "f", ())), ("do", ("call", "g", ())))),
            "return a": ("return", v("a")),
            "throw a": ("throw", v("a")),
            "send p a": ("send", "p", v("a")),
            "send p -a": ("send", "p", ("neg", v("a"))),
            "send p (a)": ("send", "p", v("a")),
            "spawn f()": ("spawn", "f", ()),
            "spawn f(a, none)": ("spawn", "f", (v("a"), ("none",))),
            "try catch e end": ("try", (), "e", ()),
            "try f() catch e throw e end": ("try", (("do", ("call", "f", ())),), "e", (("throw", v("e")),)),
            "here l let a = b": ("here", "l", ("let", "a", v("b"))),
        }
        for text, tree in wanted.items():
            with self.subTest(text):
                self.assertEqual(body(text), (tree,))
                if text[:5] != "here ":
                    self.assertEqual(body(f"here top {text}"), (("here", "top", tree),))

    def test_two_on_a_line(self):
        self.assertEqual(body("a = b c = d"), (("set", "a", v("b")), ("set", "c", v("d"))))
        self.assertEqual(body("return a f(1)"), (("return", v("a")), ("do", ("call", "f", (i(1),)))))
        self.assertEqual(
            body("a = receive b c.d = none e = 1"),
            (("set", "a", ("receive", "b")), ("put", v("c"), "d", ("none",)), ("set", "e", i(1))))

    def test_eight_blocks(self):
        for deep in (8, 12):
            tree = body("while 1 " * deep + "end " * deep)
            for _ in range(deep):
                ((word, test, tree),) = tree
                self.assertEqual((word, test), ("while", i(1)))
            self.assertEqual(tree, ())

    def test_else_of_the_inner_if(self):
        self.assertEqual(
            body("if a if b f() else g() end end"),
            (("if", v("a"), (("if", v("b"), (("do", ("call", "f", ())),), (("do", ("call", "g", ())),)),), ()),))


class ExpressionTest(ReadCase):
    def check_all(self, wanted):
        for text, tree in wanted.items():
            with self.subTest(text):
                self.assertEqual(expression(text), tree)

    def test_items(self):
        self.check_all({
            "0": i(0), "1": i(1), "10": i(10), str(LIMIT): i(LIMIT),
            "none": ("none",), "a": v("a"),
            "f()": ("call", "f", ()), "f(a, 2, none)": ("call", "f", (v("a"), i(2), ("none",))),
            "(a)": v("a"), "((a))": v("a"),
            "receive p": ("receive", "p"),
            "new()": ("new", ()), "new(a: 1)": ("new", (("a", i(1)),)),
            "new(a: 1, b: none, a: c)": ("new", (("a", i(1)), ("b", ("none",)), ("a", v("c")))),
        })

    def test_fields(self):
        self.check_all({
            "a.b": ("get", v("a"), "b"), "a.b.c": ("get", ("get", v("a"), "b"), "c"),
            "1.b": ("get", i(1), "b"), "none.b": ("get", ("none",), "b"),
            "f(a).b": ("get", ("call", "f", (v("a"),)), "b"),
            "receive p.b": ("get", ("receive", "p"), "b"),
            "new(a: 1).a": ("get", ("new", (("a", i(1)),)), "a"),
            "(a + b).c": ("get", ("op", "+", v("a"), v("b")), "c"),
            "-a.b": ("neg", ("get", v("a"), "b")), "(-a).b": ("get", ("neg", v("a")), "b"),
            "not a.b": ("not", ("get", v("a"), "b")),
        })

    def test_signs(self):
        self.check_all({
            "-1": ("neg", i(1)), "- 1": ("neg", i(1)), "--a": ("neg", ("neg", v("a"))),
            "not a": ("not", v("a")), "not not a": ("not", ("not", v("a"))),
            "-not a": ("neg", ("not", v("a"))), "not -a": ("not", ("neg", v("a"))),
            "not a == b": ("op", "==", ("not", v("a")), v("b")),
            "-a * b": ("op", "*", ("neg", v("a")), v("b")),
            "a - -b": ("op", "-", v("a"), ("neg", v("b"))), "a--b": ("op", "-", v("a"), ("neg", v("b"))),
            "a * not b": ("op", "*", v("a"), ("not", v("b"))),
        })

    def test_operators(self):
        levels = (("or",), ("and",), ("==", "!=", "<", "<="), ("+", "-"), ("*", "/", "mod"))
        for low, words in enumerate(levels):
            for word in words:
                self.check_all({f"a {word} b": ("op", word, v("a"), v("b"))})
                for other in words if low != 2 else ():
                    self.check_all({
                        f"a {word} b {other} c": ("op", other, ("op", word, v("a"), v("b")), v("c")),
                        f"a {word} (b {other} c)": ("op", word, v("a"), ("op", other, v("b"), v("c"))),
                    })
                for high in (other for row in levels[low + 1:] for other in row):
                    self.check_all({
                        f"a {word} b {high} c": ("op", word, v("a"), ("op", high, v("b"), v("c"))),
                        f"a {high} b {word} c": ("op", word, ("op", high, v("a"), v("b")), v("c")),
                        f"(a {word} b) {high} c": ("op", high, ("op", word, v("a"), v("b")), v("c")),
                    })

    def test_comparisons_in_parentheses(self):
        self.check_all({
            "(a < b) == c": ("op", "==", ("op", "<", v("a"), v("b")), v("c")),
            "a < (b == c)": ("op", "<", v("a"), ("op", "==", v("b"), v("c"))),
        })

    def test_a_long_sum(self):
        tree = expression(" - ".join(["a"] * 300))
        for _ in range(299):
            word, sign, tree, right = tree
            self.assertEqual((word, sign, right), ("op", "-", v("a")))
        self.assertEqual(tree, v("a"))

    def test_eight_deep(self):
        for deep in (8, 12, 40):
            self.check_all({"(" * deep + "a" + ")" * deep: v("a")})
            tree = expression("f(" * deep + ")" * deep)
            for _ in range(deep - 1):
                self.assertEqual(tree[:2], ("call", "f"))
                (tree,) = tree[2]
            self.assertEqual(tree, ("call", "f", ()))


class GapsTest(ReadCase):
    wanted = (("f", ("a", "b"), (
        ("if", ("op", "<=", v("a"), ("neg", i(1))), (("put", v("a"), "x", ("new", (("c", i(2)),))),), ()),
        ("here", "l", ("set", "b", ("op", "mod", v("a"), ("op", "*", i(2), i(3))))),
    )),)

    def test_fewest_gaps(self):
        text = "func f(a,b)if a<=-1 a.x=new(c:2)end here l b=a mod(2*3)end"
        self.assertEqual(read(text), self.wanted)

    def test_many_gaps(self):
        text = (" \n func\nf \n( a , b\n)\n\nif a <= - 1 a . x = new ( c : 2 ) end\n"
                "here\nl\nb\n=\na\nmod\n(\n2\n*\n3\n)\nend\n \n")
        self.assertEqual(read(text), self.wanted)

    def test_parentheses_that_are_not_needed(self):
        text = "func f(a, b) if ((a) <= (-(1))) a.x = (new(c: (2))) end here l b = ((a) mod ((2) * (3))) end"
        self.assertEqual(read(text), self.wanted)

    def test_longest_signs(self):
        self.assertEqual(expression("a==b"), ("op", "==", v("a"), v("b")))
        self.assertEqual(expression("a<=b"), ("op", "<=", v("a"), v("b")))
        self.assertEqual(expression("a!=-b"), ("op", "!=", v("a"), ("neg", v("b"))))
        self.wrong_at_mark("func f() let x = a==@=b end")
        self.wrong_at_mark("func f() let x = a <=@= b end")
        self.wrong_at_mark("func f() let x = a < @= b end")
        self.wrong_at_mark("func f() let x = a @= = b end")
        self.wrong_at_mark("func f() let x @== b end")
        self.wrong_at_mark("func f() a @<= b end")


class TokenTest(ReadCase):
    def test_names(self):
        for name in ("a", "z", "ab", "letter", "lets", "ends", "nones", "mods", "abcdefghijkl"):
            self.assertEqual(body(f"let {name} = {name}"), (("let", name, v(name)),))

    def test_long_names(self):
        self.wrong_at_mark("func main() let @abcdefghijklm = 1 end")
        self.wrong_at_mark("func main() let a = @abcdefghijklm end")
        self.wrong_at_mark("@abcdefghijklm")
        self.wrong_at_mark("func main() let a = 1 @functionfunction end")
        self.wrong_at_mark("func main() let a = @abcdefghijklmnopqrstuvwxyzif end")
        self.wrong_at_mark("func main() send @abcdefghijklm 1 end")
        self.wrong_at_mark("func main() a.@abcdefghijklm = 1 end")

    def test_integers(self):
        self.wrong_at_mark("func main() let a = @00 end")
        self.wrong_at_mark("func main() let a = @01 end")
        self.wrong_at_mark("func main() let a = @007 end")
        self.wrong_at_mark(f"func main() let a = @{LIMIT + 1} end")
        self.wrong_at_mark(f"func main() let a = @{LIMIT * 10} end")
        self.wrong_at_mark(f"func main() let a = -@{LIMIT + 1} end")
        self.wrong_at_mark("func main() let a = @0" + "0" * 20 + " end")
        self.wrong_at_mark("func main() let a = 1.@1 end")
        self.wrong_at_mark("func main() let @1 = 1 end")

    def test_very_long_integers(self):
        with self.assertRaises(BadText) as caught:
            read("func main() let a = " + "9" * 7000)
        self.assertEqual(caught.exception.at, 20)

    def test_runs_behind_runs(self):
        self.wrong_at_mark("func main() let a@1 = 1 end")
        self.wrong_at_mark("func main() let a = b@1 end")
        self.wrong_at_mark("func main() let a = 1@end")
        self.wrong_at_mark("func main() let a = 1@b end")
        self.wrong_at_mark("func@1")
        self.wrong_at_mark("func main() let a = 12@abcdefghijklmnop end")
        self.wrong_at_mark("func main() let a = b@00 end")
        self.wrong_at_mark("func main() let a = b + 1@a end")
        # The run in front of it is wrong already.
        self.wrong_at_mark("func main() let @1a = 1 end")
        self.wrong_at_mark("func main() let a = @01a end")

    def test_keywords_are_no_names(self):
        for word in grammar.KEYWORDS:
            self.wrong_at_mark(f"func @{word}() end")
            self.wrong_at_mark(f"func f(@{word}) end")
            self.wrong_at_mark(f"func f(a, @{word}) end")
            self.wrong_at_mark(f"func f() let @{word} = 1 end")
            self.wrong_at_mark(f"func f() send @{word} 1 end")
            self.wrong_at_mark(f"func f() spawn @{word}() end")
            self.wrong_at_mark(f"func f() here @{word} f() end")
            self.wrong_at_mark(f"func f() try catch @{word} end end")
            self.wrong_at_mark(f"func f() a.@{word} = 1 end")
            self.wrong_at_mark(f"func f() let a = b.@{word} end")
            self.wrong_at_mark(f"func f() let a = receive @{word} end")
            if word != "mod":
                self.wrong_at_mark(f"func f() let a = new(@{word}: 1) end")

    def test_other_characters(self):
        for character in "A!\"#$%&';>?@[\\]^_`{|}~\t\r\x00\x7f\u00e9\u0661\u00b2\u00a0\u2028\U0001f600":
            for text in ("", "func ", "func f() let a = ", "func f() let a = 1 ", "func f() let a = b",
                         "func f() end", "func f() end "):
                with self.subTest(text + character):
                    self.wrong(text + character + " end", len(text))

    def test_capital_letters(self):
        self.wrong_at_mark("@Func f() end")
        self.wrong_at_mark("func f@G() end")
        self.wrong_at_mark("func f() @END")

    def test_exclamation_mark(self):
        self.wrong_at_mark("func f() let a = b @! = c end")
        self.wrong_at_mark("func f() let a = @!b end")
        self.wrong_at_mark("func f() let a = b @!")


class WrongTest(ReadCase):
    def test_example(self):
        self.wrong("func main() let a = end", 20)

    def test_too_early(self):
        text = "func main(a, b) if a.b here x let a = new(a: f(1, 2), b: receive p) end end"
        whole = text.split(" ")
        for many in range(1, len(whole)):
            for gap in ("", " ", " \n ", "\n"):
                part = " ".join(whole[:many]) + gap
                self.wrong(part, len(part))
        self.wrong("func", 4)
        self.wrong("func main()", 11)
        self.wrong("func main() \n\n", 14)
        self.wrong("func main() let a = (1 ", 23)
        self.wrong("func main() end func ", 21)

    def test_wrong_starts(self):
        self.wrong_at_mark("@main() end")
        self.wrong_at_mark("  \n@end")
        self.wrong_at_mark("func f() end @end")
        self.wrong_at_mark("func f() end @let a = 1")
        self.wrong_at_mark("@1")
        self.wrong_at_mark("@(")

    def test_wrong_functions(self):
        self.wrong_at_mark("func @() end")
        self.wrong_at_mark("func f @end")
        self.wrong_at_mark("func f(@, a) end")
        self.wrong_at_mark("func f(a,@) end")
        self.wrong_at_mark("func f(a @b) end")
        self.wrong_at_mark("func f(@1) end")
        self.wrong_at_mark("func f(a@() end")
        self.wrong_at_mark("func f() @func g() end end")
        self.wrong_at_mark("func f()@)")

    def test_wrong_statements(self):
        for text in (
            "let a @1", "let a @== 1", "let a = @let", "a @1", "a @b = 1", "a @== 1", "a @+ 1", "a.b @(1)",
            "a.b @+ 1", "a.@= 1", "a.@1 = 1", "f() @= 1", "f()@.a = 1", "f(@,) ", "f(1@;", "f(1,@)",
            "f(1 @2)", "if @end", "if a @catch", "if a else @else end", "while @end", "while a @else end",
            "return @end", "return @return", "throw @end", "send @1", "send p @end", "send p @= 1",
            "spawn f@.a", "spawn f @end", "spawn @(f)", "spawn f()@.a", "try @else", "try @end",
            "try catch @end", "try catch e @catch f end", "try catch e @else end", "here l @end",
            "here l @here m f()", "here @1 f()", "here l @1", "here @here", "@catch e end", "@else end",
            "@receive p", "@new()", "@none", "@not a", "@-a", "@1", "@(a)", "@.a = 1", "@mod", "@= 1", "@,",
        ):
            with self.subTest(text):
                self.wrong_at_mark(f"func f() {text} end end")

    def test_wrong_expressions(self):
        for text in (
            "@+ 1", "@* 1", "@or 1", "@== 1", "a + @", "a + @+ b", "a + @* b", "a or @or b", "a @not b",
            "not @", "- @", "-@= 1", "- - @/ a", "(@)", "(a @", "(a @b)", "(a@, b)", "f(@", "f(a@;",
            "f(a,@)", "f(@,a)", "f(a @b)", "f(a@: 1)", "a(b) @!", "receive @", "receive @1", "receive @(a)",
            "receive p@(1)", "new @", "new@.a", "new(@", "new(@1)", "new(a@)", "new(a @= 1)", "new(a: @)",
            "new(a: 1,@)", "new(a: 1 @b: 2)", "new(@(a): 1)", "new(a@.b: 1)", "a.@", "a.@1", "a.@(b)", "a.@.b",
            "a.b@(1)", "a@:", "none@(1)", "1@(2)", "1 @2", "a @1", "(a)@(b)", "(a) @1", "f(1)@(2)", "f(1) @2",
            "none @none", "a @receive p", "a @new()", "1 @none", "a.b @1",
        ):
            with self.subTest(text):
                self.wrong_at_mark(f"func f() let x = {text} end".replace("@ end", "@end"))
        self.wrong_at_mark("func f() let x = @end")

    def test_second_comparison(self):
        for first in ("==", "!=", "<", "<="):
            for second in ("==", "!=", "<", "<="):
                self.wrong_at_mark(f"func f() let x = a {first} b @{second} c end")
                self.wrong_at_mark(f"func f() let x = a or b {first} c @{second} d end")
                self.wrong_at_mark(f"func f() let x = a {first} b + c @{second} d end")
                self.wrong_at_mark(f"func f() let x = (a and not b {first} c * d @{second} e) end")
                self.wrong_at_mark(f"func f() let x = (a {first} b) {second} c @{first} d end")

    def test_a_later_wrong_character_does_not_count(self):
        self.wrong_at_mark("func main() let a = @end $")
        self.wrong_at_mark("func main() let a = @end$")
        self.wrong_at_mark("func main() let a = 1 @) abcdefghijklmnop")
        self.wrong_at_mark("func main() let a @01")
        self.wrong_at_mark("@a1")
        self.wrong_at_mark("func f() a @b$ = 1 end")

    def test_an_earlier_wrong_character_counts(self):
        self.wrong_at_mark("func main() let a @$ = end")
        self.wrong_at_mark("func main() let a = 1 @$ )")

    def test_every_place_against_the_grammar(self):
        """Each token of a text is left out, doubled, or has another one before it."""
        text = ("func f ( a , b ) if a . b == - 1 here l b . c = new ( x : f ( 1 , none ) , y : receive p ) "
                "else try send o not a mod 2 catch e throw ( e ) end end end").split(" ")
        others = sorted(set(text)) + ["=", "<=", "!", "01", "while", "spawn", "let", "return", "+"]
        for at in range(len(text) + 1):
            self.check(" ".join(text[:at] + text[at + 1:]))
            for other in others:
                self.check(" ".join(text[:at] + [other] + text[at:]))
                self.check(" ".join(text[:at] + [other] + text[at + 1:]))

    def check(self, text):
        at = grammar.place(text)
        if at is None:
            self.assertEqual(read(write(read(text))), read(text))
        else:
            with self.assertRaises(BadText) as caught:
                read(text)
            self.assertEqual((text, caught.exception.at), (text, at))

    def test_random_texts_against_the_grammar(self):
        source = random.Random(4)
        characters = "abz019 \n(),:.=!<+-*/A"
        words = list(grammar.KEYWORDS) + list("(),:.=<+-*/") + ["==", "!=", "<=", "a", "b", "7", "00", "#"]
        for _ in range(600):
            text = write(Maker(source).program(1))[:300]
            at = source.randint(0, len(text))
            change = source.randint(0, 3)
            if change == 0:
                text = text[:at] + source.choice(characters) + text[at:]
            elif change == 1:
                text = text[:at] + text[at + source.randint(1, 3):]
            elif change == 2:
                text = text[:at] + " " + source.choice(words) + " " + text[at:]
            self.check(text)


if __name__ == "__main__":
    unittest.main()
