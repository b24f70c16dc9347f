import random
import unittest

from oracle import Live
from programs import SoundMaker
from trees import as_lists

from lastingrun.live import live
from lastingrun.text import read

OTHERS = """
func f(a, b) return a + b end
func g(a) return a end
func h() end
"""


class LiveCase(unittest.TestCase):
    def at(self, text, number, wait, wanted):
        """Looks at a point of main, whose text is given; wanted are names with blanks between."""
        program = read(f"func main() {text} end" + OTHERS)
        self.assertEqual(live(program, "main", number, wait), wanted.split(), (number, wait))

    def table(self, text, *rows):
        """Looks at all points of main that are given as triples."""
        for number, wait, wanted in rows:
            self.at(text, number, wait, wanted)


class GeneralTest(LiveCase):
    def test_examples(self):
        program = read("func main() let a = 1 let b = 2 while a a = a - 1 end send out b end")
        self.assertEqual(live(program, "main", 2), ["a", "b"])
        self.assertEqual(live(program, "main", 4), ["b"])

    def test_arguments(self):
        program = read("func main() let a = 1 send out a + receive in end func f(b) return b end")
        self.assertEqual(live(program=program, function="main", number=1, wait=0), [])
        self.assertEqual(live(program, "main", 1, wait=None), ["a"])
        self.assertEqual(live(program, wait=None, number=0, function="f"), ["b"])
        self.assertEqual(live(as_lists(program), "f", 0), ["b"])
        self.assertEqual(live(as_lists(program), "main", 1), ["a"])

    def test_the_arguments_stay(self):
        program = as_lists(read("func main() let a = 1 here top send out a + receive in end"))
        live(program, "main", 1, 0)
        self.assertEqual(program, as_lists(read("func main() let a = 1 here top send out a + receive in end")))

    def test_the_result_is_new(self):
        program = read("func main() let a = 1 send out a end")
        found = live(program, "main", 1)
        self.assertIs(type(found), list)
        found.append("more")
        self.assertEqual(live(program, "main", 1), ["a"])

    def test_ascending(self):
        self.at("let c = 1 let a = 1 let b = 1 send out c + a + b + a", 3, None, "a b c")

    def test_no_statements(self):
        program = read("func main() end func f(a, b) end")
        self.assertEqual(live(program, "main", 0), [])
        self.assertEqual(live(program, "f", 0, None), [])

    def test_parameters(self):
        program = read("func main() end func f(b, a, c) send out b return a end")
        self.assertEqual(live(program, "f", 0), ["a", "b"])
        self.assertEqual(live(program, "f", 1), ["a"])

    def test_long_sums(self):
        text = " + ".join(["a", "b"] * 400)
        self.at(f"let a = 1 let b = 2 send out {text}", 2, None, "a b")


class StatementTest(LiveCase):
    def test_let(self):
        self.table("let a = 1 let b = a send out b", (0, None, ""), (1, None, "a"), (2, None, "b"))

    def test_set(self):
        self.table("let a = 1 a = 2 send out a", (1, None, ""), (2, None, "a"))
        self.table("let a = 1 a = a + 2 send out a", (1, None, "a"))

    def test_put_reads(self):
        self.table("let a = 1 let b = 2 let c = 3 a.f = b a.f.g = c",
                   (3, None, "a b c"), (4, None, "a c"))

    def test_do(self):
        self.table("let a = 1 let b = 2 f(a, b)", (2, None, "a b"), (2, 0, ""))

    def test_send(self):
        self.table("let a = 1 send out a", (1, None, "a"))

    def test_return(self):
        self.table("let a = 1 let b = 2 return a send out b", (2, None, "a"), (3, None, "b"))

    def test_throw(self):
        self.table("let a = 1 let b = 2 throw a send out b", (2, None, "a"), (3, None, "b"))

    def test_spawn(self):
        self.table("let a = 1 let b = 2 spawn f(a, g(b))", (2, None, "a b"), (2, 0, ""))

    def test_here(self):
        self.table("let a = 1 here top send out a send out 1", (1, None, "a"), (2, None, ""))

    def test_if(self):
        text = "let a = 1 let b = 2 let c = 3 if a send out b else send out c end"
        self.table(text, (3, None, "a b c"), (4, None, "b"), (5, None, "c"))
        self.table("let a = 1 let b = 2 if a b = 3 end send out b", (2, None, "a b"), (3, None, ""))
        self.table("let a = 1 let b = 2 if a b = 3 else b = 4 end send out b", (2, None, "a"))

    def test_if_with_a_constant_test(self):
        self.table("let a = 1 let b = 2 if 1 send out a else send out b end", (2, None, "a b"))
        self.table("let a = 1 if 0 send out a end", (1, None, "a"))

    def test_while(self):
        text = "let a = 1 let b = 2 while a send out b b = 3 end send out 4"
        self.table(text, (2, None, "a b"), (3, None, "a b"), (4, None, "a"), (5, None, ""))

    def test_while_comes_again(self):
        self.table("let a = 1 while 1 send out a end", (1, None, "a"), (2, None, "a"))
        self.table("let a = 1 while 1 a = 2 send out a end", (1, None, ""), (2, None, ""), (3, None, "a"))
        self.table("while 1 let a = 1 send out a end", (0, None, ""), (1, None, ""), (2, None, "a"))

    def test_while_with_a_constant_test(self):
        self.table("let a = 1 while 1 end send out a", (1, None, "a"))
        self.table("let a = 1 while 0 send out a end", (1, None, "a"))

    def test_while_in_while(self):
        text = "let a = 1 let b = 2 while 1 while b b = b - 1 end b = a end"
        self.table(text, (2, None, "a b"), (3, None, "a b"), (4, None, "a b"), (5, None, "a"))

    def test_return_in_while(self):
        self.table("let a = 1 let b = 2 while 1 if b return a end end",
                   (2, None, "a b"), (3, None, "a b"), (4, None, "a"))


class ExpressionTest(LiveCase):
    def test_operands(self):
        names = "let a = 1 let b = 2 "
        for text in ("a + b", "a mod b", "a < b", "a and b", "a or b", "-a * b", "not a + b", "f(a, b)",
                     "new(b: a, c: b)", "a.b - b.a", "f(g(a), -b)", "(a and 1) == new(c: b)"):
            self.at(names + f"send out {text}", 2, None, "a b")

    def test_names_of_other_kinds(self):
        """A field, a port, a label or a function with the name of a variable is no variable."""
        names = "let f = 1 let in = 2 let top = 3 "
        self.at(names + "here top let x = new(top: in).f + receive top send f g(x).in", 3, None, "in")
        self.at(names + "f.top = f.in + f(1, 2)", 3, None, "f")
        self.at(names + "spawn f(1, 2)", 3, None, "")
        self.at(names + "send top receive in", 3, None, "")

    def test_constants(self):
        self.at("let a = 1 send out 1 + none", 1, None, "")

    def test_waits_by_their_places(self):
        text = "let a = 1 let b = 2 let c = 3 return f(g(a), b + f(receive in, c)) + a"
        self.table(text, (3, None, "a b c"), (3, 0, "a"), (3, 1, "a b c"), (3, 2, "a"), (3, 3, "a c"))

    def test_nested_calls(self):
        text = "let a = 1 send out f(g(1), a)"
        self.table(text, (1, None, "a"), (1, 0, ""), (1, 1, "a"))

    def test_nested_receives(self):
        text = "let a = 1 let b = 2 send out receive in + a + receive in + b"
        self.table(text, (2, None, "a b"), (2, 0, "a b"), (2, 1, "b"))

    def test_and_and_or(self):
        for word in ("and", "or"):
            text = f"let a = 1 let b = 2 let c = 3 send out (a {word} g(b)) + receive in + c"
            self.table(text, (3, None, "a b c"), (3, 0, "c"), (3, 1, "c"))
            text = f"let a = 1 let b = 2 send out g(1) {word} a + receive in + b"
            self.table(text, (2, 0, "a b"), (2, 1, "b"))
            text = f"let a = 1 let b = 2 send out receive in {word} a {word} receive in {word} b"
            self.table(text, (2, 0, "a b"), (2, 1, "b"))

    def test_a_wait_within_a_set(self):
        self.table("let a = 1 a = g(1) send out a", (1, None, ""), (1, 0, ""))
        self.table("let a = 1 a = g(1) + a send out a", (1, None, "a"), (1, 0, "a"))

    def test_a_wait_within_a_put(self):
        self.table("let a = 1 let b = 2 a.c = g(1) + b", (2, None, "a b"), (2, 0, "b"))

    def test_a_wait_within_a_new(self):
        text = "let a = 1 let b = 2 let c = new(x: a, y: receive in, z: b) send out c"
        self.table(text, (2, None, "a b"), (2, 0, "b"), (3, None, "c"))

    def test_a_wait_within_a_spawn(self):
        text = "let a = 1 let b = 2 spawn f(g(a), receive in + b)"
        self.table(text, (2, None, "a b"), (2, 0, "b"), (2, 1, "b"))

    def test_a_wait_within_a_test(self):
        text = "let a = 1 let b = 2 let c = 3 if g(a) < b send out c end"
        self.table(text, (3, None, "a b c"), (3, 0, "b c"))
        text = "let a = 1 let b = 2 while receive in < a b = b + 1 end"
        self.table(text, (2, None, "a b"), (2, 0, "a b"), (3, None, "a b"))

    def test_a_wait_within_return_and_throw(self):
        for word in ("return", "throw"):
            text = f"let a = 1 let b = 2 {word} receive in + a send out b"
            self.table(text, (2, None, "a"), (2, 0, "a"))


class TryTest(LiveCase):
    def test_each_point_leads_to_the_handler(self):
        text = "let a = 1 let b = 2 try send out 1 b = g(1) send out 2 catch e send out a + e end"
        self.table(text, (2, None, "a"), (3, None, "a"), (4, None, "a"), (4, 0, "a"), (5, None, "a"), (6, None, "a e"))

    def test_the_name_after_catch_is_assigned(self):
        text = "let a = 1 try send out 1 catch e send out e end"
        self.table(text, (1, None, ""), (2, None, ""), (3, None, "e"))

    def test_what_the_body_assigns_is_live_before(self):
        """The path to the handler begins before the assignment."""
        text = "let a = 1 try a = 2 catch e send out a end"
        self.table(text, (1, None, "a"), (2, None, "a"), (3, None, "a"))
        text = "let a = 1 try a = receive in catch e end send out a"
        self.table(text, (1, None, "a"), (2, None, "a"), (2, 0, "a"))

    def test_an_empty_body(self):
        text = "let a = 1 try catch e send out a end"
        self.table(text, (1, None, ""), (2, None, "a"))

    def test_behind_the_try(self):
        text = "let a = 1 let b = 2 try send out 1 catch e a = 3 end send out a + b"
        self.table(text, (2, None, "a b"), (3, None, "a b"), (4, None, "b"), (5, None, "a b"))

    def test_behind_the_try_nothing_leads_to_the_handler(self):
        self.table("let a = 1 try send out 1 catch e send out a end send out 2", (4, None, ""))

    def test_throw_within(self):
        text = "let a = 1 let b = 2 try throw 1 catch e send out a end send out b"
        self.table(text, (2, None, "a b"), (3, None, "a b"))
        text = "let a = 1 let b = 2 try throw b catch e return a end send out b"
        self.table(text, (2, None, "a b"), (3, None, "a b"))

    def test_return_within(self):
        text = "let a = 1 let b = 2 try return 1 catch e send out a end send out b"
        self.table(text, (3, None, "a b"))
        text = "let a = 1 let b = 2 try return 1 catch e return a end send out b"
        self.table(text, (2, None, "a"), (3, None, "a"))

    def test_throw_behind(self):
        self.table("let a = 1 try send out 1 catch e send out a end throw 2", (4, None, ""))

    def test_a_handler_is_not_within_its_try(self):
        text = "let a = 1 try send out 1 catch e a = 2 throw a end"
        self.table(text, (1, None, ""), (2, None, ""), (3, None, ""), (4, None, "a"))

    def test_a_try_within_a_try(self):
        text = ("let a = 1 let b = 2 try send out 1 try send out 2 catch e a = 3 end send out 3"
                " catch f send out a + b end")
        self.table(text, (2, None, "a b"), (3, None, "a b"), (4, None, "a b"), (5, None, "a b"),
                   (6, None, "a b"), (7, None, "a b"), (8, None, "a b"))

    def test_the_innermost_try(self):
        """From within the inner body no path leads to the outer handler but by the inner one."""
        text = "let a = 1 let b = 2 try try send out 1 catch e return a end catch f send out b end"
        self.table(text, (2, None, "a b"), (3, None, "a b"), (4, None, "a b"), (5, None, "a b"))
        text = "let a = 1 let b = 2 try try send out 1 catch e end catch f send out b end"
        self.table(text, (2, None, "b"), (3, None, "b"), (4, None, ""))

    def test_a_try_within_a_handler(self):
        text = "let a = 1 let b = 2 try send out 1 catch e try send out 2 catch f send out a end end send out b"
        self.table(text, (3, None, "a b"), (4, None, "a b"), (5, None, "a b"), (6, None, "a b"), (7, None, "b"))

    def test_a_handler_within_a_try(self):
        text = "let a = 1 try try throw 1 catch e send out 2 end catch f send out a end"
        self.table(text, (4, None, "a"), (5, None, "a"))

    def test_a_try_within_a_while(self):
        text = "let a = 1 let b = 2 while 1 try b = a catch e a = b end end"
        self.table(text, (2, None, "a b"), (3, None, "a b"), (4, None, "a b"), (5, None, "b"))

    def test_a_while_within_a_try(self):
        text = "let a = 1 let b = 2 try while receive in let c = a send out c end catch e send out b end"
        self.table(text, (3, None, "a b"), (3, 0, "a b"), (4, None, "a b"), (5, None, "a b c"), (6, None, "b"))

    def test_any_depth(self):
        text = "let a = 1 try if 1 while 1 send out 1 end else send out 2 end catch e send out a end"
        self.table(text, (2, None, "a"), (3, None, "a"), (4, None, "a"), (5, None, "a"))


class OracleTest(unittest.TestCase):
    def test_random_programs(self):
        for seed in range(150):
            program = SoundMaker(random.Random(seed)).program()
            for name, _, body in program:
                for (number, wait), names in Live(body).points.items():
                    self.assertEqual(live(program, name, number, wait), sorted(names), (seed, name, number, wait))


if __name__ == "__main__":
    unittest.main()
