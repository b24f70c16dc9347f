import unittest

from lastingrun.plain import Run
from lastingrun.text import read

OTHERS = " func g() return receive in end func f(a, b) return receive in end"


def all_turns(run, most=60):
    many = 0
    while many < most and run.turn():
        many += 1


class PictureCase(unittest.TestCase):
    def run_of(self, text):
        """A run of main, whose text is given, behind all its turns."""
        run = Run(read(f"func main() {text} end" + OTHERS))
        all_turns(run)
        return run

    def held(self, text, *wanted):
        """Looks at what the frame of main holds in its last statement."""
        run = self.run_of("let r = new(a: none) let x = 3 let y = 0 " + text)
        frame = run.picture()[2][0][1][0]
        self.assertEqual(frame[3], wanted, text)

    def at_call_and_receive(self, text, *wanted):
        self.held(text, *wanted)
        self.held(text.replace("g()", "receive in"), *wanted)


class GeneralTest(PictureCase):
    def test_example(self):
        run = Run(read("func main() let total = 0 while 1 let n = receive in total = total + n"
                       " send out total end end"))
        self.assertEqual(
            [run.turn(), run.give("in", 4), run.picture()],
            [True, None, (0, 1, ((0, (("main", 2, 0, (), (("total", 0),)),)),), (("in", (4,)),), ())])

    def test_before_the_first_turn(self):
        run = Run(read("func main() let a = 1 end"))
        self.assertEqual(run.picture(), (None, 1, ((0, (("main", 0, None, (), ()),)),), (), ()))
        run = Run(read("func main() end"))
        self.assertEqual(run.picture(), (None, 1, ((0, (("main", 0, None, (), ()),)),), (), ()))

    def test_a_task_before_its_first_turn(self):
        run = Run(read("func main() let r = new(a: 4) spawn f(r, 2) spawn g() end"
                       " func f(b, a) return a + b.a end func g() end"))
        run.turn()
        self.assertEqual(run.picture(), (0, 3, (
            (1, (("f", 0, None, (), (("a", 2), ("b", ("record", 0)))),)),
            (2, (("g", 0, None, (), ()),)),
        ), (), ((("a", 4),),)))

    def test_a_task_that_has_ended(self):
        run = Run(read("func main() spawn f() spawn f() end func f() return receive in end"))
        run.turn()
        self.assertEqual(run.picture()[:2], (0, 3))
        self.assertEqual([number for number, _ in run.picture()[2]], [1, 2])
        all_turns(run)
        run.give("in", 1)
        run.turn()
        self.assertEqual(run.picture(), (1, 3, ((2, (("f", 0, 0, (), ()),)),), (), ()))
        run.give("in", 1)
        run.turn()
        self.assertEqual(run.picture(), (2, 3, (), (), ()))

    def test_a_task_that_has_failed(self):
        run = Run(read("func main() throw 1 end"))
        run.turn()
        self.assertEqual(run.picture(), (0, 1, (), (), ()))

    def test_frames(self):
        run = Run(read("func main() let a = 1 let b = 2 send out a + f(b) * b end"
                       " func f(n) here top if n == 0 let k = 5 return k + receive in + n end return f(n - 1) end"))
        all_turns(run)
        self.assertEqual(run.picture()[2], ((0, (
            ("main", 2, 0, (1,), (("b", 2),)),
            ("f", 3, 0, (), ()),
            ("f", 3, 0, (), ()),
            ("f", 2, 0, (5,), (("n", 0),)),
        )),))

    def test_only_live_variables(self):
        run = self.run_of("let a = 1 let b = 2 let c = 3 b = receive in send out c + b")
        self.assertEqual(run.picture()[2][0][1][0], ("main", 3, 0, (), (("c", 3),)))

    def test_variables_ascend(self):
        run = self.run_of("let c = 1 let a = 2 let b = none g() send out c + a + b")
        self.assertEqual(run.picture()[2][0][1][0][4], (("a", 2), ("b", None), ("c", 1)))

    def test_a_name_with_a_number_after_catch(self):
        run = self.run_of("try throw 7 catch e g() send out e end")
        self.assertEqual(run.picture()[2][0][1][0], ("main", 2, 0, (), (("e", 7),)))

    def test_a_turn_that_ended_before_a_statement(self):
        run = Run(read("func main() let a = 1 while a here top a = a + 1 end end"))
        run.turn()
        self.assertEqual(run.picture()[2], ((0, (("main", 2, None, (), (("a", 3),)),)),))
        run.turn()
        self.assertEqual(run.picture()[2], ((0, (("main", 2, None, (), (("a", 6),)),)),))

    def test_a_callee_before_its_first_statement(self):
        run = Run(read("func main() " + "send out 1 " * 5 + "send out 1 + f(2) end func f(a) return a end"))
        run.turn()
        self.assertEqual(run.picture()[2], ((0, (("main", 5, 0, (1,), ()), ("f", 0, None, (), (("a", 2),)))),))

    def test_queues(self):
        run = Run(read("func main() let a = receive b end"))
        for port, value in (("c", 1), ("a", 2), ("b", 3), ("a", 4), ("b", -5)):
            run.give(port, value)
        self.assertEqual(run.picture()[3], (("a", (2, 4)), ("b", (3, -5)), ("c", (1,))))
        run.turn()
        self.assertEqual(run.picture()[3], (("a", (2, 4)), ("b", (-5,)), ("c", (1,))))
        run = Run(read("func main() let a = receive b end"))
        run.give("b", 1)
        run.turn()
        self.assertEqual(run.picture()[3], ())

    def test_outputs_are_not_in_it(self):
        one = self.run_of("send out 1 g()")
        two = self.run_of("send out 2 g()")
        one.forget("out", 1)
        self.assertEqual(one.picture(), two.picture())

    def test_kinds(self):
        run = self.run_of("let r = new(a: new(b: 1)) let x = 1 + f(2, r.a == none) send out r.a.b")
        run.give("p", 1)

        def look(part):
            if isinstance(part, tuple):
                for inner in part:
                    look(inner)
            else:
                self.assertIn(type(part), (int, str, type(None)))

        look(run.picture())
        self.assertEqual(run.picture(), run.picture())


class HeldTest(PictureCase):
    def test_document(self):
        self.at_call_and_receive("x = 1 + g()", 1)
        self.at_call_and_receive("x = f(2, g())", 2)
        self.at_call_and_receive("r.a = g()", ("record", 0))
        self.at_call_and_receive("r = new(a: 3, b: g())", 3)
        self.at_call_and_receive("x = x and g()")
        self.at_call_and_receive("x = y or g()")

    def test_operators(self):
        for sign in ("+", "-", "*", "/", "mod", "<", "<=", "==", "!="):
            self.at_call_and_receive(f"x = 7 {sign} g()", 7)
            self.at_call_and_receive(f"x = g() {sign} 7")
        self.at_call_and_receive("x = 1 + 2 * g()", 1, 2)
        self.at_call_and_receive("x = 1 + 2 + g()", 3)
        self.at_call_and_receive("x = 1 + (2 + (3 + g()))", 1, 2, 3)
        self.at_call_and_receive("x = -g()")
        self.at_call_and_receive("x = not g()")
        self.at_call_and_receive("x = 5 - -g()", 5)
        self.at_call_and_receive("x = g().a")
        self.at_call_and_receive("x = 5 + g().a", 5)

    def test_none_and_fields(self):
        self.at_call_and_receive("x = none == g()", None)
        self.at_call_and_receive("x = r.a == g()", None)

    def test_arguments(self):
        self.at_call_and_receive("x = f(g(), 2)")
        self.at_call_and_receive("x = 1 + f(2, 3 + g())", 1, 2, 3)
        self.held("x = 1 + f(2, 3)", 1)
        self.held("f(2, 3)")
        self.at_call_and_receive("spawn f(4, 5 + g())", 4, 5)

    def test_fields_of_a_new(self):
        self.at_call_and_receive("x = new(a: 1, b: none, c: g(), d: 4)", 1, None)
        self.at_call_and_receive("x = 9 + new(a: 1, c: new(b: 2, a: g()))", 9, 1, 2)

    def test_put(self):
        self.at_call_and_receive("r.a = 5 + g()", ("record", 0), 5)
        self.at_call_and_receive("r.a.b = g()", None)

    def test_and_and_or(self):
        self.at_call_and_receive("x = 8 + (x and g())", 8)
        self.at_call_and_receive("x = (x and 6) + g()", 6)
        self.at_call_and_receive("x = x and 1 + g()", 1)
        self.at_call_and_receive("x = x and y or 5 - g()", 5)

    def test_statements(self):
        self.at_call_and_receive("send out 1 + g()", 1)
        self.at_call_and_receive("return 1 + g()", 1)
        self.at_call_and_receive("throw 1 + g()", 1)
        self.at_call_and_receive("if 1 + g() end", 1)
        self.at_call_and_receive("if x < 9 and g() end")
        self.at_call_and_receive("while x < g() end", 3)
        self.at_call_and_receive("let z = 1 + g()", 1)
        self.at_call_and_receive("here top let z = 1 + g()", 1)

    def test_after_a_wait(self):
        run = self.run_of("send out (receive in + 1) * receive in")
        run.give("in", 4)
        run.turn()
        self.assertEqual(run.picture()[2][0][1][0], ("main", 0, 1, (5,), ()))

    def test_at_the_beginning_of_a_statement(self):
        run = self.run_of("let x = 1 + receive in while 1 end")
        run.give("in", 4)
        run.turn()
        self.assertEqual(run.picture()[2][0][1][0], ("main", 1, None, (), ()))

    def test_after_a_call_as_a_statement(self):
        """What it returned is needed no more."""
        run = self.run_of("k() let x = 1 + receive in end func k() return 9")
        self.assertEqual(run.picture()[2][0][1][0], ("main", 1, 0, (1,), ()))

    def test_in_a_handler(self):
        """What the statement in the try had computed is dropped."""
        run = self.run_of("try let x = 1 + (2 + 1 / 0) catch e let y = e + receive in end")
        self.assertEqual(run.picture()[2][0][1][0], ("main", 2, 0, (-1,), ()))


class RecordsTest(PictureCase):
    def records(self, text):
        return self.run_of(text).picture()[4]

    def test_shared(self):
        run = self.run_of("let a = new(x: 1) let b = a let c = new(y: a, z: b) g() return f(a, f(b, c))")
        self.assertEqual(run.picture()[2][0][1][0][4],
                         (("a", ("record", 0)), ("b", ("record", 0)), ("c", ("record", 1))))
        self.assertEqual(run.picture()[4], ((("x", 1),), (("y", ("record", 0)), ("z", ("record", 0)))))

    def test_a_ring(self):
        run = self.run_of("let a = new(x: none) let b = new(x: a) a.x = b g() return b")
        self.assertEqual(run.picture()[2][0][1][0][4], (("b", ("record", 0)),))
        self.assertEqual(run.picture()[4], ((("x", ("record", 1)),), (("x", ("record", 0)),)))
        self.assertEqual(self.records("let a = new(x: none) a.x = a g() return a"), ((("x", ("record", 0)),),))

    def test_fields_keep_the_order_of_the_new(self):
        self.assertEqual(self.records("let a = new(y: 1, x: none, z: 3) a.x = 5 a.y = none g() return a"),
                         ((("y", None), ("x", 5), ("z", 3)),))
        self.assertEqual(self.records("let a = new() g() return a"), ((),))

    def test_only_a_held_value_names_it(self):
        run = self.run_of("let x = new(a: 1) == g()")
        self.assertEqual(run.picture()[2][0][1][0], ("main", 0, 0, (("record", 0),), ()))
        self.assertEqual(run.picture()[4], ((("a", 1),),))
        run = self.run_of("let r = new(a: 1) r.a = g()")
        self.assertEqual(run.picture()[2][0][1][0], ("main", 1, 0, (("record", 0),), ()))
        self.assertEqual(run.picture()[4], ((("a", 1),),))

    def test_nothing_names_it(self):
        self.assertEqual(self.records("let a = new(x: new(y: 1)) let b = new() g() b = a"), ((("x", ("record", 1)),),
                                                                                            (("y", 1),)))
        self.assertEqual(self.records("let a = new(x: new(y: 1)) g()"), ())
        self.assertEqual(self.records("let a = new(x: new(y: 1)) a = new(z: 1) g() return a"), ((("z", 1),),))
        self.assertEqual(self.records("let a = new(x: new(y: 1)) a.x = none g() return a"), ((("x", None),),))

    def test_held_values_before_variables(self):
        run = self.run_of("let a = new(x: 1) let b = new(x: 2) let c = new(x: 3) return f(c, f(b, g())) == a")
        self.assertEqual(run.picture()[2][0][1][0],
                         ("main", 3, 2, (("record", 0), ("record", 1)), (("a", ("record", 2)),)))
        self.assertEqual(run.picture()[4], ((("x", 3),), (("x", 2),), (("x", 1),)))

    def test_the_order_in_which_they_are_met(self):
        """All variables of all frames of all tasks come before the fields."""
        text = ("func main() let b = new(n: 1, m: new(n: 2)) let a = new(n: 3) let d = new(n: 4, m: new(n: 5, m: b))"
                " spawn f(d) k(new(n: 6)) send out a.n + b.n end"
                " func k(c) receiver() return c end func f(r) let s = new(n: 7) receiver() return r == s end"
                " func receiver() let x = receive in end")
        run = Run(read(text))
        all_turns(run)
        picture = run.picture()
        self.assertEqual(picture[2], (
            (0, (("main", 4, 0, (), (("a", ("record", 0)), ("b", ("record", 1)))),
                 ("k", 0, 0, (), (("c", ("record", 2)),)),
                 ("receiver", 0, 0, (), ()))),
            (1, (("f", 1, 0, (), (("r", ("record", 3)), ("s", ("record", 4)))),
                 ("receiver", 0, 0, (), ()))),
        ))
        self.assertEqual(picture[4], (
            (("n", 3),),
            (("n", 1), ("m", ("record", 5))),
            (("n", 6),),
            (("n", 4), ("m", ("record", 6))),
            (("n", 7),),
            (("n", 2),),
            (("n", 5), ("m", ("record", 1))),
        ))

    def test_fields_by_records(self):
        """The fields of record 0 come before those of record 1, at any depth."""
        run = self.run_of("let a = new(p: new(q: new(n: 1))) let b = new(p: new(n: 2)) g() return a == b")
        self.assertEqual(run.picture()[4], (
            (("p", ("record", 2)),), (("p", ("record", 3)),), (("q", ("record", 4)),), (("n", 2),), (("n", 1),)))

    def test_a_long_chain(self):
        run = Run(read("func main() let r = none let k = 0 while k < 300 r = new(a: r, n: k) k = k + 1 end"
                       " let x = receive in return r end"))
        all_turns(run, 1000)
        records = run.picture()[4]
        self.assertEqual(len(records), 300)
        self.assertEqual(records[0], (("a", ("record", 1)), ("n", 299)))
        self.assertEqual(records[-1], (("a", None), ("n", 0)))


if __name__ == "__main__":
    unittest.main()
