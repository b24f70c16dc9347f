import copy
import random
import unittest

from trees import Maker, as_lists

from lastingrun.check import faults
from lastingrun.text import read

SOUND = """
func main()
  let a = 1
  let b = new(a: a, f: none)
  while a < 9
    here top a = a + 1
    if a
      let c = f(a, b)
      send out c
    else
      let d = receive in
      b.f = d
    end
  end
  try
    let e = 1
    throw e
  catch why
    spawn f(why, 2)
    main()
  end
end
func f(a, b)
  here top return a + b.a
end
"""


class CheckCase(unittest.TestCase):
    def found(self, text, *wanted):
        program = read(text)
        self.assertEqual(faults(program), list(wanted))
        self.assertEqual(faults(as_lists(program)), list(wanted))

    def main(self, text, *wanted):
        """The faults of the statements of main, as pairs."""
        self.found(f"func main() {text} end func f(a) end", *[("main", *pair) for pair in wanted])


class GeneralTest(CheckCase):
    def test_example(self):
        self.found("func main() let a = b a = f(1) end func f() end",
                   ("main", 0, "unknown"), ("main", 1, "many"))

    def test_sound(self):
        self.found(SOUND)
        self.found("func main() end")

    def test_by_name(self):
        self.assertEqual(faults(program=read(SOUND)), [])

    def test_the_result_is_new(self):
        program = read("func main(a) b = 1 end")
        first = faults(program)
        wanted = list(first)
        self.assertEqual(wanted, [("", -1, "main"), ("main", 0, "unknown")])
        first.append("more")
        first[0] = None
        self.assertEqual(faults(program), wanted)
        self.assertEqual(faults(read(SOUND)), [])
        faults(read(SOUND)).append("more")
        self.assertEqual(faults(read(SOUND)), [])

    def test_kinds(self):
        found = faults(as_lists(read("func main(a) b = 1 end")))
        self.assertIs(type(found), list)
        self.assertEqual([type(triple) for triple in found], [tuple, tuple])

    def test_the_argument_stays(self):
        maker = Maker(random.Random(5))
        for _ in range(50):
            program = as_lists(maker.program(3))
            before = copy.deepcopy(program)
            found = faults(program)
            self.assertEqual(program, before)
            self.assertEqual(len(found), len(set(found)))
            self.assertEqual(faults(program), found)

    def test_a_long_sum(self):
        self.main("let x = " + " + ".join(["a"] * 300 + ["f()"]), (0, "unknown"), (0, "many"))
        self.main("let x = 1 let y = x" + ".b" * 300)


class MainTest(CheckCase):
    def test_missing(self):
        self.found("", ("", -1, "main"))
        self.found("func f() end", ("", -1, "main"))
        self.found("func f() a = 1 end", ("", -1, "main"), ("f", 0, "unknown"))

    def test_parameters(self):
        self.found("func main(a) end", ("", -1, "main"))
        self.found("func f() end func main(a, b) end", ("", -1, "main"))

    def test_twice(self):
        self.found("func main() end func main() end", ("main", -1, "twice"))
        self.found("func main() end func main(a) end", ("main", -1, "twice"))
        self.found("func main(a) end func main() end", ("", -1, "main"), ("main", -1, "twice"))

    def test_comes_first(self):
        self.found("func f(a, a) end func f() end func main(a) end", ("", -1, "main"), ("f", -1, "twice"))

    def test_main_is_called(self):
        self.main("main() main(1) spawn main() spawn main(2)", (1, "many"), (3, "many"))

    def test_a_variable_main(self):
        self.found("func f() let main = 1 end", ("", -1, "main"))


class UnknownTest(CheckCase):
    def test_every_expression(self):
        for text in (
            "a", "-a", "not a", "a.x", "a.x.y", "(-a).x", "a + 1", "1 + a", "a and 1", "1 or a", "1 == a",
            "f(a)", "f(f(a))", "new(x: a)", "new(x: 1, y: f(a))", "g", "f(1 + 2 * (3 - a))",
        ):
            with self.subTest(text):
                self.main(f"let x = {text}", (0, "unknown"))

    def test_every_statement(self):
        for text in (
            "let b = a", "a = 1", "a.x = 1", "a.x.y = 1", "f(a)", "if a end", "while a end", "return a", "throw a",
            "send p a", "spawn f(a)", "here l a = 1", "here l return a", "here l if a end", "here l while a end",
            "g()", "g(1)", "spawn g()", "spawn g(1)", "let b = g()", "return 1 + g(1)",
        ):
            with self.subTest(text):
                self.main(text, (0, "unknown"))

    def test_the_value_of_a_put(self):
        self.main("let a = 1 a.x = b", (1, "unknown"))
        self.main("let a = 1 a.x.y = b", (1, "unknown"))

    def test_ports_labels_and_fields_are_no_variables(self):
        self.main("here l let a = receive p let b = a.c let c = new(d: 1)")
        self.main("here l let a = receive p send p a a = l", (2, "unknown"))
        self.main("let a = receive p a = p", (1, "unknown"))
        self.main("let a = new(b: 1) a = b", (1, "unknown"))

    def test_functions_are_no_variables(self):
        self.main("let a = f", (0, "unknown"))
        self.main("f = 1", (0, "unknown"))
        self.main("let g = 1 g()", (1, "unknown"))
        self.main("let f = 1 f(f)")

    def test_a_function_below(self):
        self.found("func main() g() end func g() h() end", ("g", 0, "unknown"))


class NumberTest(CheckCase):
    def test_one_after_another(self):
        self.main("a = 1 let b = 1 a = 1 b = 1 a = 1", (0, "unknown"), (2, "unknown"), (4, "unknown"))

    def test_if(self):
        self.main("if a a = 1 else a = 1 end a = 1",
                  (0, "unknown"), (1, "unknown"), (2, "unknown"), (3, "unknown"))
        self.main("if 1 let b = 1 else a = 1 a = 1 end let c = 1 a = 1",
                  (2, "unknown"), (3, "unknown"), (5, "unknown"))
        self.main("if 1 if 2 else a = 1 end else a = 1 end a = 1", (2, "unknown"), (3, "unknown"), (4, "unknown"))
        self.main("if 1 else end a = 1", (1, "unknown"))

    def test_while(self):
        self.main("while a a = 1 while a end end a = 1",
                  (0, "unknown"), (1, "unknown"), (2, "unknown"), (3, "unknown"))

    def test_try(self):
        self.main("try a = 1 catch e a = 1 a = 1 end a = 1",
                  (1, "unknown"), (2, "unknown"), (3, "unknown"), (4, "unknown"))
        self.main("try catch e try catch b a = 1 end a = 1 end a = 1",
                  (2, "unknown"), (3, "unknown"), (4, "unknown"))

    def test_here(self):
        self.main("here l a = 1 here m a = 1", (0, "unknown"), (1, "unknown"))
        self.main("here l if 1 here m a = 1 end here o a = 1", (1, "unknown"), (2, "unknown"))
        self.main("here l try here m a = 1 catch e here n a = 1 end here o a = 1",
                  (1, "unknown"), (2, "unknown"), (3, "unknown"))

    def test_each_function_begins_at_0(self):
        self.found("func main() let b = 1 a = 1 end func f() a = 1 end",
                   ("main", 1, "unknown"), ("f", 0, "unknown"))


class ScopeTest(CheckCase):
    def test_let(self):
        self.main("let a = a", (0, "unknown"))
        self.main("let a = 1 a = a")
        self.main("a = 1 let a = 1", (0, "unknown"))
        self.main("here l let a = a", (0, "unknown"))
        self.main("here l let a = 1 a = 2")

    def test_blocks(self):
        self.main("if 1 let a = 1 a = a end a = 1", (3, "unknown"))
        self.main("if 1 let a = 1 else a = 1 end", (2, "unknown"))
        self.main("if 1 else let a = 1 a = 1 end a = 1", (3, "unknown"))
        self.main("while 1 let a = 1 a = 1 end a = 1", (3, "unknown"))
        self.main("while a let a = 1 end", (0, "unknown"))
        self.main("try let a = 1 a = 1 catch e a = 1 end a = 1", (3, "unknown"), (4, "unknown"))
        self.main("try catch e let a = 1 a = 1 end a = 1", (3, "unknown"))
        self.main("here l if 1 let a = 1 end a = 1", (2, "unknown"))

    def test_inner_blocks(self):
        self.main("let a = 1 if a while a try a = a catch e a = e end end else a = 1 end")
        self.main("while 1 if 1 let a = 1 end a = 1 end", (3, "unknown"))

    def test_catch(self):
        self.main("try catch e e = e if e throw e end end e = 1", (4, "unknown"))
        self.main("try e = 1 catch e end", (1, "unknown"))
        self.main("try catch e try catch b b = e end b = e end", (3, "unknown"))

    def test_parameters(self):
        self.found("func main() a = 1 end func f(a, b) while a b = a end a = b end func g() a = 1 end",
                   ("main", 0, "unknown"), ("g", 0, "unknown"))

    def test_the_outer_one_goes_on(self):
        self.main("let a = 1 if 1 let a = a end a = 1", (2, "twice"))
        self.main("let e = 1 try catch e end e = 1", (1, "twice"))

    def test_the_inner_one_is_in_scope(self):
        self.main("if 1 let a = 1 end if 1 a = 1 let a = 1 a = 1 end a = 1",
                  (3, "unknown"), (4, "twice"), (6, "unknown"))


class TwiceTest(CheckCase):
    def test_variables(self):
        self.main("let a = 1 let a = 2", (1, "twice"))
        self.main("let a = 1 let a = 2 let a = 3", (1, "twice"), (2, "twice"))
        self.main("if 1 let a = 1 else let a = 1 end", (2, "twice"))
        self.main("if 1 let a = 1 end while 1 let a = 1 end let a = 1", (3, "twice"), (4, "twice"))

    def test_parameters(self):
        self.found("func main() end func f(a, a) end", ("f", -1, "twice"))
        self.found("func main() end func f(a, b, a, b, a) end", ("f", -1, "twice"))
        self.found("func main() end func f(a) let a = 1 end", ("f", 0, "twice"))
        self.found("func main() end func f(a) try catch a a = 1 end end", ("f", 0, "twice"))
        self.found("func main() end func f(a) end func g(a) end")

    def test_catch(self):
        self.main("let e = 1 try catch e end", (1, "twice"))
        self.main("try catch e end try catch e end", (1, "twice"))
        self.main("try catch e let e = 1 end", (1, "twice"))
        self.main("try catch e end let e = 1", (1, "twice"))
        self.main("try catch e try catch e end end", (1, "twice"))

    def test_catch_and_the_body_of_the_try(self):
        self.main("try let e = 1 catch e end", (0, "twice"))
        self.main("try let a = 1 let e = 1 catch e end", (0, "twice"))
        self.main("try let e = 1 let e = 2 catch e end", (0, "twice"), (2, "twice"))
        self.main("try try catch e end catch e end", (0, "twice"))
        self.main("try b = 1 let e = 1 catch e c = 1 end", (0, "twice"), (1, "unknown"), (3, "unknown"))
        self.main("here l try let e = 1 catch e end", (0, "twice"))

    def test_labels(self):
        self.main("here l let a = 1 here l a = 1", (1, "twice"))
        self.main("here l if 1 here l f(1) end", (1, "twice"))
        self.main("if 1 here l f(1) else here l f(1) end", (2, "twice"))
        self.main("here l f(1) here l f(1) here l f(1)", (1, "twice"), (2, "twice"))
        self.found("func main() here l f() end func f() here l f() end")

    def test_functions(self):
        self.found("func main() end func f() end func f() end", ("f", -1, "twice"))
        self.found("func main() end func f() end func g() end func f() end func f() end func g() end",
                   ("f", -1, "twice"), ("g", -1, "twice"))

    def test_fields(self):
        self.main("let a = new(x: 1, x: 2)", (0, "twice"))
        self.main("let a = new(x: 1, y: 2, x: 3, y: 4)", (0, "twice"))
        self.main("let a = new(x: new(x: 1), y: new(x: 1))")
        self.main("let a = new(x: new(y: 1, y: 1))", (0, "twice"))
        self.main("let a = new(x: 1) let b = new(x: 1)")
        self.main("let a = new(x: 1) + new(x: 1)")
        self.main("if new(x: 1, x: 1) end while 1 send p new(x: 1, x: 1) end", (0, "twice"), (2, "twice"))

    def test_names_of_their_own(self):
        self.found("func main() end func f(f) here f let main = new(f: f, main: 1) send f receive main end")
        self.found("func main() here a let a = 1 here main send main a end")


class ManyTest(CheckCase):
    def test_numbers(self):
        for text in ("f()", "f(1, 2)", "let a = f()", "send p 1 + f(1, 2)", "spawn f()", "spawn f(1, 2)",
                     "let a = new(x: f())", "f(f())", "here l f()", "return f() + f(1).x"):
            with self.subTest(text):
                self.main(text, (0, "many"))
        self.main("f(1) spawn f(1) let a = f(f(2))")

    def test_the_first_one_counts(self):
        self.found("func main() f(1) f(1, 2) f() end func f(a) end func f(a, b) f(1) end func f() f() end",
                   ("main", 1, "many"), ("main", 2, "many"), ("f", -1, "twice"), ("f", 0, "many"))
        self.found("func main() spawn f(1) spawn f() end func f() end func f(a) end",
                   ("main", 0, "many"), ("f", -1, "twice"))

    def test_parameters_twice(self):
        self.found("func main() f(1) f(1, 2) end func f(a, a) end", ("main", 0, "many"), ("f", -1, "twice"))

    def test_unknown_functions_have_no_many(self):
        self.main("g() g(1) g(1, 2)", (0, "unknown"), (1, "unknown"), (2, "unknown"))


class OrderTest(CheckCase):
    def test_within_a_statement(self):
        self.main("let a = b + f()", (0, "unknown"), (0, "many"))
        self.main("let a = f() + b", (0, "many"), (0, "unknown"))
        self.main("f(b, 1)", (0, "many"), (0, "unknown"))
        self.main("spawn f(b, 1)", (0, "many"), (0, "unknown"))
        self.main("f(f(), b)", (0, "many"), (0, "unknown"))
        self.main("g(f())", (0, "unknown"), (0, "many"))
        self.main("send p f(f(b), g())", (0, "many"), (0, "unknown"))
        self.main("b = f()", (0, "unknown"), (0, "many"))
        self.main("b.x = f()", (0, "unknown"), (0, "many"))
        self.main("let a = 1 let a = b", (1, "twice"), (1, "unknown"))
        self.main("let a = 1 let a = f()", (1, "twice"), (1, "many"))
        self.main("here l f(1) here l b = f()", (1, "twice"), (1, "unknown"), (1, "many"))
        self.main("let a = new(x: f(), x: b)", (0, "many"), (0, "twice"), (0, "unknown"))
        self.main("let a = new(x: 1, x: f(), y: b)", (0, "twice"), (0, "many"), (0, "unknown"))
        self.main("let a = new(x: b, x: f())", (0, "unknown"), (0, "twice"), (0, "many"))
        self.main("let a = new(x: 1, x: 2) + f(b, 1)", (0, "twice"), (0, "many"), (0, "unknown"))
        self.main("let a = f() + new(x: 1, x: 2)", (0, "many"), (0, "twice"))
        self.main("let a = -f().x * b", (0, "many"), (0, "unknown"))
        self.main("let a = (b and 1) == (f() or 2)", (0, "unknown"), (0, "many"))

    def test_within_arguments(self):
        two = "end func g(a, b) end func f(a) end"
        for call in ("g", "let x = g", "spawn g", "return 1 + g"):
            self.found(f"func main() {call}(b, f()) {two}", ("main", 0, "unknown"), ("main", 0, "many"))
            self.found(f"func main() {call}(f(), b) {two}", ("main", 0, "many"), ("main", 0, "unknown"))

    def test_within_a_function(self):
        self.found("func main() end func f(a, a) let a = b end", ("f", -1, "twice"), ("f", 0, "twice"),
                   ("f", 0, "unknown"))
        self.main("while b f() end f()", (0, "unknown"), (1, "many"), (2, "many"))
        self.main("try f() let e = b catch e f() end", (0, "twice"), (1, "many"), (2, "unknown"), (3, "many"))

    def test_between_functions(self):
        self.found("func g() a = 1 end func main() a = 1 end func f() a = 1 end",
                   ("g", 0, "unknown"), ("main", 0, "unknown"), ("f", 0, "unknown"))

    def test_functions_of_one_name(self):
        self.found(
            "func main() end func f() let b = 1 a = 1 end func g() a = 1 end func f() a = 1 a = 1 end",
            ("f", 1, "unknown"), ("g", 0, "unknown"), ("f", -1, "twice"), ("f", 0, "unknown"))

    def test_each_triple_once(self):
        self.main("let a = b + c + d", (0, "unknown"))
        self.main("f() let a = f() + f()", (0, "many"), (1, "many"))
        self.main("let a = b + f() + b + f()", (0, "unknown"), (0, "many"))


if __name__ == "__main__":
    unittest.main()
