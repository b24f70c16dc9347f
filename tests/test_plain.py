import unittest

from trees import as_lists

from lastingrun.errors import Unsound
from lastingrun.limits import DEPTH, LIMIT, QUANTUM
from lastingrun.plain import Run
from lastingrun.text import read

ADDER = "func main() let total = 0 while 1 let n = receive in total = total + n send out total end end"


def all_turns(run, most=60):
    """Makes turns until there is none; returns how many there were."""
    many = 0
    while many < most and run.turn():
        many += 1
    return many


def values(run, port="out"):
    return [value for _, value, _ in run.outputs(port)]


class PlainCase(unittest.TestCase):
    def run_of(self, text, *given):
        """The run of a text to which integers were given at the port in, behind all its turns."""
        run = Run(read(text))
        for value in given:
            run.give("in", value)
        all_turns(run)
        return run

    def sends(self, text, *wanted, given=()):
        """Looks at the outputs of main, whose text is given."""
        run = self.run_of(f"func main() {text} end func f(a, b) return a + b end func g(a) return a end", *given)
        self.assertEqual(values(run), list(wanted), text)
        self.assertEqual(run.outputs("faults"), [], text)
        return run

    def value(self, text, wanted, given=()):
        self.sends(f"let r = new(a: 1, b: 2) let s = new(a: 1, b: 2) let t = r let z = {LIMIT} send out {text}",
                   wanted, given=given)

    def fails(self, text, wanted, given=()):
        """Looks at the number that an expression throws."""
        self.sends(f"let r = new(a: 1) let z = {LIMIT} try let x = {text} send out 77 catch e send out e end",
                   wanted, given=given)


class ExampleTest(PlainCase):
    def test_adder(self):
        run = Run(read(ADDER))
        self.assertEqual(
            [run.turn(), run.turn(), run.give("in", 5), run.give("in", 2), run.turn(), run.outputs("out"), run.turns()],
            [True, False, None, None, True, [(1, 5, 1), (2, 7, 1)], 2])
        self.assertEqual([run.turn(), run.able()], [True, []])
        self.assertEqual(
            [run.given("in"), run.sent("out"), run.forget("out", 1), run.outputs("out"), run.changes()],
            [2, 2, None, [(2, 7, 1)], 0])

    def test_tasks(self):
        run = Run(read("func main() spawn f(0) spawn f(3) end"
                       " func f(k) try send out 6 / k catch e send out e end end"))
        self.assertEqual([run.turn(), run.turn(), run.turn(), run.turn(), run.outputs("out")],
                         [True, True, True, False, [(1, -1, 1), (2, 2, 2)]])


class OperatorTest(PlainCase):
    def test_sums(self):
        self.value("2 + 3", 5)
        self.value("2 + -3", -1)
        self.value("2 - 3", -1)
        self.value("-2 - -3", 1)
        self.value("2 - 3 - 4", -5)

    def test_products(self):
        self.value("2 * 3", 6)
        self.value("-2 * 3", -6)
        self.value("-2 * -3", 6)
        self.value("0 * -3", 0)

    def test_division_rounds_down(self):
        for left, right in ((7, 2), (-7, 2), (7, -2), (-7, -2), (6, 3), (-6, 3), (6, -3), (0, -3), (1, LIMIT),
                            (-1, LIMIT), (LIMIT, -1), (-LIMIT, -1), (LIMIT, 3), (-LIMIT, 7)):
            text = f"({left}) / ({right})"
            self.value(text, left // right)
            self.value(f"({left}) mod ({right})", left - left // right * right)
        self.value("-7 / 2", -4)
        self.value("7 / -2", -4)
        self.value("-7 mod 2", 1)
        self.value("7 mod -2", -1)
        self.value("-7 mod -2", -1)

    def test_signs(self):
        self.value("-3", -3)
        self.value("--3", 3)
        self.value("-0", 0)
        self.value("-(z)", -LIMIT)
        self.value("not 3", 0)
        self.value("not -3", 0)
        self.value("not 0", 1)
        self.value("not none", 1)
        self.value("not r", 0)
        self.value("not not 5", 1)

    def test_order(self):
        self.value("2 < 3", 1)
        self.value("3 < 3", 0)
        self.value("4 < 3", 0)
        self.value("2 <= 3", 1)
        self.value("3 <= 3", 1)
        self.value("4 <= 3", 0)
        self.value("-3 < -2", 1)

    def test_equality(self):
        for text, same in (("3 == 3", 1), ("3 == 4", 0), ("none == none", 1), ("none == 0", 0), ("0 == none", 0),
                           ("r == r", 1), ("r == t", 1), ("r == s", 0), ("r == none", 0), ("none == r", 0),
                           ("r == 0", 0), ("1 == r", 0), ("new() == new()", 0), ("1 == 1 and 1", 1)):
            self.value(text, same)
            self.value(text.replace("==", "!="), 1 - same if "and" not in text else 0)

    def test_and(self):
        self.value("2 and 3", 3)
        self.value("0 and 3", 0)
        self.value("2 and 0", 0)
        self.value("(none and 3) == none", 1)
        self.value("(r and s) == s", 1)
        self.value("(0 and r) == 0", 1)
        self.value("1 and 2 and 3", 3)
        self.value("1 and 0 and 3", 0)

    def test_or(self):
        self.value("2 or 3", 2)
        self.value("0 or 3", 3)
        self.value("(0 or none) == none", 1)
        self.value("none or 0", 0)
        self.value("(r or s) == r", 1)
        self.value("0 or none or 3", 3)
        self.value("0 or 2 and 3", 3)
        self.value("2 or 1 / 0", 2)
        self.value("0 and 1 / 0", 0)

    def test_and_and_or_behind_other_operands(self):
        self.value("1 + (0 and 5)", 1)
        self.value("1 + (4 and 5)", 6)
        self.value("0 + (0 or 5)", 5)
        self.value("0 + (4 or 5)", 4)
        self.value("f(0, 4 and 5) * f(1, 0 or 5)", 30)

    def test_skipped_operands_take_nothing(self):
        self.value("(0 and receive in) + receive in", 5, given=(5, 6))
        self.value("(1 or receive in) + receive in", 6, given=(5, 6))
        self.value("(1 and receive in) + receive in * 10", 65, given=(5, 6))
        self.value("(0 or receive in) + receive in * 10", 65, given=(5, 6))

    def test_from_left_to_right(self):
        self.value("receive in - receive in", 2, given=(5, 3))
        self.value("f(receive in, -receive in)", 2, given=(5, 3))
        self.sends("let r = new(b: receive in, a: receive in) send out r.b send out r.a", 5, 3, given=(5, 3))
        self.value("receive in * (receive in + receive in)", 40, given=(5, 3, 5))

    def test_limits(self):
        self.value("z + 0", LIMIT)
        self.value("z - 1 + 1", LIMIT)
        self.value("-z - 0", -LIMIT)
        self.value("-z + 0", -LIMIT)
        self.value("z / 2 * 2", LIMIT)
        self.value("z / 2 * -2", -LIMIT)
        self.value("1000000 * 1000000", LIMIT)
        self.value("-z / 1", -LIMIT)
        self.value("z / -1", -LIMIT)

    def test_long_sums(self):
        self.value(" + ".join(["1"] * 900), 900)
        self.value("not " * 900 + "5", 1)


class FailureTest(PlainCase):
    def test_divisors(self):
        self.fails("1 / 0", -1)
        self.fails("0 / 0", -1)
        self.fails("1 mod 0", -1)
        self.fails("z / (1 - 1)", -1)

    def test_operands(self):
        for sign in ("+", "-", "*", "/", "mod", "<", "<="):
            for wrong in ("none", "r"):
                self.fails(f"1 {sign} {wrong}", -2)
                self.fails(f"{wrong} {sign} 1", -2)
                self.fails(f"{wrong} {sign} {wrong}", -2)
        self.fails("-none", -2)
        self.fails("-r", -2)

    def test_no_record(self):
        self.fails("none.a", -2)
        self.fails("5.a", -2)
        self.fails("r.a.b", -2)

    def test_no_field(self):
        self.fails("r.b", -3)
        self.fails("new().a", -3)

    def test_beyond_the_limit(self):
        self.fails("z + 1", -4)
        self.fails("-z - 1", -4)
        self.fails("1 - -z", -4)
        self.fails("1000001 * 1000000", -4)
        self.fails("1000001 * -1000000", -4)
        self.fails("z * z", -4)
        self.fails("z + 1 - 1", -4)

    def test_the_order_of_checks(self):
        self.fails("none / 0", -2)
        self.fails("none mod 0", -2)
        self.fails("r.b + none", -3)
        self.fails("none.a / 0", -2)
        self.fails("1 / 0 + none", -1)
        self.fails("none + 1 / 0", -1)
        self.fails("1 / 0 + r.b", -1)
        self.fails("r.b + 1 / 0", -3)
        self.fails("(z + 1) / 0", -4)

    def test_both_operands_are_evaluated_first(self):
        text = "try let x = none + receive in catch e send out e end send out receive in"
        self.sends(text, -2, 6, given=(5, 6))
        text = "try let x = none / receive in catch e send out e end send out receive in"
        self.sends(text, -2, 6, given=(5, 6))

    def test_send(self):
        self.sends("try send p none catch e send out e end", -2)
        self.sends("try send p new() catch e send out e end", -2)
        run = self.sends("try send p none catch e send out e end", -2)
        self.assertEqual([run.outputs("p"), run.sent("p")], [[], 0])

    def test_put(self):
        self.sends("let r = none try r.a = 1 catch e send out e end", -2)
        self.sends("let r = 7 try r.a = 1 catch e send out e end", -2)
        self.sends("let r = new(b: 1) try r.a = 1 catch e send out e end send out r.b", -3, 1)
        self.sends("let r = new(b: 1) try r.a.b = 1 catch e send out e end", -3)
        self.sends("let r = new(b: 1) try r.b.b = 1 catch e send out e end", -2)

    def test_put_evaluates_the_record_first(self):
        self.sends("let r = 7 try r.a = receive in catch e send out e end send out receive in", -2, 6, given=(5, 6))
        self.sends("let r = 7 try r.a = 1 / 0 catch e send out e end", -1)
        self.sends("let r = new(b: 1) try r.a = 1 / 0 catch e send out e end", -1)
        self.sends("let r = new() try r.b.a = 1 / 0 catch e send out e end", -3)

    def test_put_into_the_record_that_was_evaluated(self):
        text = ("func main() let r = new(a: 1) let s = new(b: r) s.b.a = f(s) send out r.a send out s.b.a end"
                " func f(s) s.b = new(a: 5) return 9 end")
        self.assertEqual(values(self.run_of(text)), [9, 5])

    def test_a_failure_is_a_throw(self):
        self.sends("try send out 1 send out 1 / 0 send out 2 catch e send out e * 10 end send out 3", 1, -10, 3)


class RecordTest(PlainCase):
    def test_fields(self):
        self.sends("let r = new(b: 1, a: 2) r.a = r.a + r.b send out r.a send out r.b", 3, 1)

    def test_shared(self):
        self.sends("let r = new(a: 1) let s = r s.a = 5 send out r.a", 5)
        self.sends("let r = new(a: none) r.a = r r.a.a.a = 4 send out r.a", 4)

    def test_each_new_is_another(self):
        self.sends("let k = 0 let r = none while k < 2 let s = new(a: k) send out s == r r = s k = k + 1 end", 0, 0)

    def test_fields_hold_any_value(self):
        self.sends("let r = new(a: none, b: new(c: 3)) send out r.a == none send out r.b.c", 1, 3)


class StatementTest(PlainCase):
    def test_if(self):
        for test, way in (("1", 1), ("-1", 1), ("new()", 1), ("0", 2), ("none", 2)):
            self.sends(f"if {test} send out 1 else send out 2 end", way)
            self.sends(f"if {test} send out 1 end send out 3", *([1, 3] if way == 1 else [3]))

    def test_while(self):
        self.sends("let a = 3 while a send out a a = a - 1 end", 3, 2, 1)
        self.sends("while none send out 1 end while 0 send out 1 end send out 2", 2)
        self.sends("let a = new() while a send out 1 a = none end", 1)

    def test_return(self):
        self.sends("return 1 send out 2")
        self.sends("while 1 send out 1 return none end", 1)

    def test_a_let_in_a_while(self):
        self.sends("let k = 0 while k < 2 let a = k a = a + 10 send out a k = k + 1 end", 10, 11)

    def test_here(self):
        self.sends("here top send out 1 here low while 0 end here mid send out 2", 1, 2)

    def test_do(self):
        text = "func main() f(1) send out 2 end func f(a) send out a return 5 end"
        self.assertEqual(values(self.run_of(text)), [1, 2])


class CallTest(PlainCase):
    def test_results(self):
        self.sends("send out f(2, g(3)) * g(10)", 50)

    def test_no_return(self):
        text = "func main() send out f() == none send out g() == none end func f() end func g() send out 1 end"
        self.assertEqual(values(self.run_of(text)), [1, 1, 1])

    def test_parameters_are_variables_of_the_frame(self):
        text = "func main() let a = 1 f(a, 2) send out a end func f(a, b) a = a + b send out a end"
        self.assertEqual(values(self.run_of(text)), [3, 1])

    def test_recursion(self):
        text = "func main() send out f(10) end func f(n) if n < 2 return 1 end return n * f(n - 1) end"
        self.assertEqual(values(self.run_of(text)), [3628800])

    def test_depth(self):
        """main is one frame, f(n) makes n more."""
        text = ("func main() try send out f({0}) catch e send out e end end"
                " func f(n) if n < 2 return 1 end return f(n - 1) + 1 end")
        self.assertEqual(values(self.run_of(text.format(DEPTH - 1))), [DEPTH - 1])
        self.assertEqual(values(self.run_of(text.format(DEPTH))), [-5])

    def test_the_arguments_are_evaluated_before_the_depth_is_checked(self):
        text = ("func main() try send out f({0}) catch e send out e end send out receive in end"
                " func f(n) if n < 2 return g(receive in) end return f(n - 1) end func g(n) return n end")
        self.assertEqual(values(self.run_of(text.format(DEPTH - 2), 5, 6)), [5, 6])
        self.assertEqual(values(self.run_of(text.format(DEPTH - 1), 5, 6)), [-5, 6])
        text = text.replace("receive in)", "1 / 0)")
        self.assertEqual(values(self.run_of(text.format(DEPTH - 1), 6)), [-1, 6])

    def test_the_depth_is_that_of_the_task(self):
        text = ("func main() f({0}) end func f(n) if n < 2 spawn f({0}) return 1 end"
                " return f(n - 1) end")
        run = Run(read(text.format(DEPTH - 1)))
        self.assertEqual(all_turns(run), 60)
        self.assertEqual(run.sent("faults"), 0)

    def test_the_depth_failure_is_thrown_at_the_call(self):
        text = ("func main() f(1) end func f(n) try f(n + 1) catch e send out n end end")
        run = self.run_of(text)
        self.assertEqual(values(run), [DEPTH - 1])


class ThrowTest(PlainCase):
    def test_values(self):
        self.sends("try throw 5 catch e send out e end", 5)
        self.sends("try throw none catch e send out e == none end", 1)
        self.sends("let r = new(a: 3) try throw r catch e send out e == r send out e.a end", 1, 3)

    def test_what_follows_is_not_executed(self):
        self.sends("try throw 1 send out 2 catch e end send out 3", 3)

    def test_no_throw(self):
        self.sends("try send out 1 catch e send out e end send out 2", 1, 2)
        self.sends("try catch e send out e end send out 2", 2)

    def test_through_frames(self):
        text = ("func main() try send out 1 + f(1) catch e send out e end send out 9 end"
                " func f(n) send out g(n) send out 8 end func g(n) throw n + 6 end")
        self.assertEqual(values(self.run_of(text)), [7, 9])

    def test_the_innermost_frame_that_has_one(self):
        text = ("func main() try f() catch e send out 10 + e end end"
                " func f() try g() catch e send out 20 + e end send out 3 end func g() throw 1 end")
        self.assertEqual(values(self.run_of(text)), [21, 3])

    def test_the_innermost_try(self):
        self.sends("try try throw 1 catch e send out 10 + e end send out 3 catch f send out f end", 11, 3)

    def test_a_handler_is_not_within_its_own_try(self):
        self.sends("try try throw 1 catch e throw e + 1 end catch f send out f end", 2)
        run = self.run_of("func main() try throw 1 catch e throw 2 end end")
        self.assertEqual(run.outputs("faults"), [(1, 0, 0)])

    def test_a_call_in_a_handler(self):
        text = ("func main() try try throw 1 catch e f(e) end catch g send out g end end"
                " func f(n) throw n + 4 end")
        self.assertEqual(values(self.run_of(text)), [5])

    def test_behind_the_try(self):
        run = self.run_of("func main() try send out 1 catch e send out e end throw 2 end")
        self.assertEqual([values(run), values(run, "faults")], [[1], [0]])

    def test_what_the_statement_has_computed_is_dropped(self):
        self.sends("let k = 0 while k < 3 try let x = 1 + (2 * (3 + g(none) / 0)) catch e k = k + 1 end end"
                   " send out k + g(1)", 4)

    def test_variables_stay(self):
        self.sends("let a = 1 try a = 2 let b = 1 / 0 catch e send out a end", 2)
        self.sends("let a = 1 try a = 1 / 0 catch e send out a end", 1)

    def test_the_test_of_a_while_within_a_try(self):
        self.sends("let k = 2 try while 6 / k k = k - 1 end catch e send out e send out k end", -1, 0)

    def test_out_of_the_first_task(self):
        run = self.run_of("func main() send out 1 f() send out 2 end func f() throw 7 end")
        self.assertEqual([values(run), run.outputs("faults"), run.sent("faults"), run.able()], [[1], [(1, 0, 0)], 1, []])
        self.assertEqual(run.turn(), False)

    def test_out_of_a_spawned_task(self):
        text = "func main() spawn f(0) spawn f(1) send out receive in end func f(n) let x = 1 / n throw new() end"
        run = self.run_of(text, 3)
        self.assertEqual(run.outputs("faults"), [(1, 1, 1), (2, 2, 2)])
        self.assertEqual(values(run), [3])

    def test_the_port_faults_is_a_port(self):
        run = self.run_of("func main() send faults 9 spawn f() send out receive faults end func f() throw 7 end")
        self.assertEqual([run.outputs("faults"), values(run), run.able()], [[(1, 9, 0), (2, 1, 1)], [], []])
        run.forget("faults", 1)
        self.assertEqual(run.outputs("faults"), [(2, 1, 1)])
        run.give("faults", 4)
        all_turns(run)
        self.assertEqual(values(run), [4])


class TaskTest(PlainCase):
    def test_spawn_evaluates_the_arguments_at_once(self):
        text = "func main() let a = receive in spawn f(a, receive in) a = 9 end func f(x, y) send out x - y end"
        self.assertEqual(values(self.run_of(text, 5, 3)), [2])

    def test_spawn_shares_records(self):
        text = "func main() let r = new(a: 1) spawn f(r) r.a = 2 end func f(r) send out r.a end"
        self.assertEqual(values(self.run_of(text)), [2])

    def test_spawn_in_a_loop(self):
        text = "func main() let k = 0 while k < 4 spawn f(k) k = k + 1 end end func f(k) send out k end"
        run = self.run_of(text)
        # Turn 0 counts let, while, spawn, set, while, spawn; then each new task ends in one turn.
        self.assertEqual(run.outputs("out"), [(1, 0, 1), (2, 1, 2), (3, 2, 4), (4, 3, 5)])
        self.assertEqual(run.picture(), (0, 5, (), (), ()))

    def test_turns_go_around(self):
        text = ("func main() spawn f(1) spawn f(2) f(0) end func f(k) while 1 send out k receiver() end end"
                " func receiver() return receive in end")
        run = Run(read(text))
        # The sixth statement of turn 0 is the call of receiver, so task 0 waits from turn 3 on.
        self.assertEqual([all_turns(run), values(run), run.able()], [4, [0, 1, 2], []])
        for wanted in (1, 2, 0, 1, 2):
            run.give("in", 1)
            self.assertEqual([run.able(), run.turn(), run.able(), values(run)[-1]], [[0, 1, 2], True, [], wanted])
        self.assertEqual(values(run), [0, 1, 2, 1, 2, 0, 1, 2])

    def test_tasks_that_wait_have_no_turn(self):
        text = ("func main() spawn f(1) spawn g() spawn f(3) end func f(k) while 1 send out k end end"
                " func g() send out receive in end")
        run = Run(read(text))
        for _ in range(6):
            run.turn()
        self.assertEqual([turn for _, value, turn in run.outputs("out") if value == 3], [3, 3, 3, 5, 5, 5])
        self.assertEqual([turn for _, value, turn in run.outputs("out") if value == 1], [1, 1, 1, 4, 4, 4])
        self.assertEqual(run.able(), [1, 3])
        run.give("in", 7)
        self.assertEqual(run.able(), [1, 2, 3])
        run.turn()
        run.turn()
        self.assertEqual([(value, turn) for _, value, turn in run.outputs("out")][-1], (7, 7))
        self.assertEqual(run.able(), [1, 3])

    def test_the_task_of_the_last_turn_may_be_gone(self):
        text = "func main() spawn f() spawn g() return none end func f() end func g() while 1 end end"
        run = Run(read(text))
        self.assertEqual([run.turn(), run.able(), run.turn(), run.able(), run.turn(), run.turn(), run.able()],
                         [True, [1, 2], True, [2], True, True, [2]])

    def test_a_program_that_ends(self):
        run = Run(read("func main() end"))
        self.assertEqual([run.able(), run.turn(), run.able(), run.turn(), run.turns()], [[0], True, [], False, 1])

    def test_one_value_for_two_tasks(self):
        text = "func main() spawn f(1) spawn f(2) end func f(k) send out k * 10 + receive in end"
        run = Run(read(text))
        all_turns(run)
        run.give("in", 5)
        self.assertEqual(run.able(), [1, 2])
        run.turn()
        self.assertEqual([values(run), run.able()], [[15], []])
        run.give("in", 6)
        self.assertEqual([run.able(), run.turn(), values(run)], [[2], True, [15, 26]])


class TurnTest(PlainCase):
    def turns_of(self, text, *given):
        run = self.run_of(f"func main() {text} end func f() send out 1 send out 2 end", *given)
        return [turn for _, _, turn in run.outputs("out")], run.turns()

    def test_quantum(self):
        sends = "send out 1 " * QUANTUM
        self.assertEqual(self.turns_of(sends), ([0] * QUANTUM, 1))
        self.assertEqual(self.turns_of(sends + "send out 2"), ([0] * QUANTUM + [1], 2))

    def test_what_follows_the_last_statement_of_a_turn(self):
        """A turn goes on to the next statement: calls return, tests of if and loops end."""
        run = self.run_of("func main() send out 1 send out 1 send out 1 send out f() + 1 end"
                          " func f() send out 1 return 1 end")
        self.assertEqual([turn for _, _, turn in run.outputs("out")], [0] * 5)
        self.assertEqual(run.turns(), 1)

    def test_each_statement_is_counted(self):
        text = "let a = 1 a = 2 let r = new(a: 1) r.a = 3 if a end while 0 end send out 1"
        self.assertEqual(self.turns_of(text), ([1], 2))
        text = "here x let a = 1 here y if 1 here z a = 2 end try a = 3 catch e end send out 1 send out 2"
        self.assertEqual(self.turns_of(text), ([0, 1], 2))

    def test_statements_of_other_frames_are_counted(self):
        self.assertEqual(self.turns_of("f() f() send out 3"), ([0, 0, 0, 0, 1], 2))

    def test_the_name_after_catch_is_not_counted(self):
        self.assertEqual(self.turns_of("try throw 1 catch e send out e end " + "send out 2 " * 4),
                         ([0, 0, 0, 0, 1], 2))

    def test_a_while_is_counted_each_time(self):
        run = Run(read("func main() let k = 0 while k < 4 k = k + 1 end send out k end"))
        run.turn()
        self.assertEqual(run.picture()[2], ((0, (("main", 2, None, (), (("k", 2),)),)),))
        run.turn()
        self.assertEqual([run.outputs("out"), run.turns()], [[(1, 4, 1)], 2])

    def test_a_loop_without_statements(self):
        run = Run(read("func main() while 1 end end"))
        self.assertEqual([run.turn() for _ in range(5)], [True] * 5)
        self.assertEqual(run.picture(), (0, 1, ((0, (("main", 0, None, (), ()),)),), (), ()))
        run = Run(read("func main() let k = 0 while f() end end func f() send out receive in return 1 end"))
        for value in range(9):
            run.give("in", value)
        all_turns(run)
        # let, then while, send and return three at a time.
        self.assertEqual([turn for _, _, turn in run.outputs("out")], [0, 0, 1, 1, 2, 2, 3, 3, 4])

    def test_here_before_a_while(self):
        one = self.turns_of("let k = 0 while k < 9 k = k + 1 send out k end")
        self.assertEqual(self.turns_of("let k = 0 here top while k < 9 here low k = k + 1 send out k end"), one)

    def test_a_receive_that_goes_on_is_not_counted_again(self):
        run = Run(read("func main() send out receive in " + "send out 2 " * 7 + "end"))
        run.turn()
        run.give("in", 1)
        run.turn()
        self.assertEqual([turn for _, _, turn in run.outputs("out")], [1] * 7)
        run.turn()
        self.assertEqual([turn for _, _, turn in run.outputs("out")], [1] * 7 + [2])

    def test_a_turn_ends_where_the_task_waits(self):
        run = Run(read("func main() send out 1 send out receive in + receive in send out 3 end"))
        self.assertEqual([run.turn(), run.turn(), values(run)], [True, False, [1]])
        run.give("in", 4)
        self.assertEqual([run.turn(), run.turn(), values(run)], [True, False, [1]])
        run.give("in", 5)
        self.assertEqual([run.turn(), run.turn(), values(run), run.turns()], [True, False, [1, 9, 3], 3])

    def test_a_receive_after_a_full_quantum(self):
        """The sixth statement may still wait; it is in the middle then."""
        run = Run(read("func main() " + "send out 1 " * 5 + "send out receive in send out 2 end"))
        run.turn()
        self.assertEqual(run.picture()[2], ((0, (("main", 5, 0, (), ()),)),))
        run.give("in", 7)
        run.turn()
        self.assertEqual(run.outputs("out")[5:], [(6, 7, 1), (7, 2, 1)])


class InterfaceTest(PlainCase):
    def test_unsound(self):
        for text, faults in (("func f() end", [("", -1, "main")]), ("", [("", -1, "main")]),
                             ("func main() a = f() end", [("main", 0, "unknown")]),
                             ("func main() let a = g(1) end func g() end", [("main", 0, "many")])):
            with self.assertRaises(Unsound) as caught:
                Run(read(text))
            self.assertEqual(caught.exception.faults, faults)

    def test_arguments_by_name(self):
        run = Run(program=read(ADDER))
        run.give(port="in", value=4)
        run.give(value=5, port="in")
        all_turns(run)
        self.assertEqual([run.given(port="in"), run.sent(port="out"), run.outputs(port="out")],
                         [2, 2, [(1, 4, 0), (2, 9, 1)]])
        self.assertEqual(run.forget(number=1, port="out"), None)
        self.assertEqual(run.outputs("out"), [(2, 9, 1)])
        self.assertEqual(run.change(program=read(ADDER)), None)

    def test_lists_for_tuples(self):
        program = as_lists(read(ADDER))
        run = Run(program)
        self.assertEqual(run.program(), read(ADDER))
        program[0][2][0][2][1] = 100
        del program[0][2][1]
        run.give("in", 5)
        all_turns(run)
        self.assertEqual(values(run), [5])
        self.assertEqual(run.program(), read(ADDER))

    def test_the_argument_stays(self):
        program = as_lists(read(ADDER))
        run = Run(program)
        run.give("in", 5)
        all_turns(run)
        self.assertEqual(program, as_lists(read(ADDER)))

    def test_ports_without_values(self):
        run = Run(read(ADDER))
        self.assertEqual([run.given("x"), run.sent("x"), run.outputs("x"), run.forget("x", 5), run.outputs("x")],
                         [0, 0, [], None, []])
        self.assertEqual([run.sent("x"), run.given("x"), run.picture()[3]], [0, 0, ()])
        all_turns(run)
        self.assertEqual([run.given("in"), run.outputs("out")], [0, []])

    def test_given_counts_what_was_taken_too(self):
        run = Run(read(ADDER))
        run.give("in", LIMIT)
        run.give("other", -LIMIT)
        all_turns(run)
        run.give("in", 0)
        self.assertEqual([run.given("in"), run.given("other"), run.given("out")], [2, 1, 0])

    def test_a_queue_holds_only_what_was_given(self):
        run = self.run_of("func main() send in 5 send out receive in end")
        self.assertEqual([run.outputs("in"), run.able(), run.given("in")], [[(1, 5, 0)], [], 0])

    def test_forget(self):
        run = Run(read(ADDER))
        for value in range(4):
            run.give("in", value)
        all_turns(run)
        whole = run.outputs("out")
        self.assertEqual([number for number, _, _ in whole], [1, 2, 3, 4])
        run.forget("out", 0)
        run.forget("out", -3)
        self.assertEqual(run.outputs("out"), whole)
        run.forget("out", 2)
        self.assertEqual(run.outputs("out"), whole[2:])
        run.forget("out", 1)
        self.assertEqual([run.outputs("out"), run.sent("out")], [whole[2:], 4])
        run.forget("out", 100)
        self.assertEqual([run.outputs("out"), run.sent("out")], [[], 4])
        run.give("in", 9)
        all_turns(run)
        self.assertEqual([number for number, _, _ in run.outputs("out")], [5])
        self.assertEqual(run.sent("out"), 5)

    def test_forget_touches_one_port(self):
        run = self.run_of("func main() send out 1 send p 2 end")
        run.forget("p", 1)
        self.assertEqual([run.outputs("out"), run.outputs("p")], [[(1, 1, 0)], []])

    def test_outputs_of_a_port_are_numbered_apart(self):
        run = self.run_of("func main() send out 1 send p 2 send out 3 end")
        self.assertEqual([run.outputs("out"), run.outputs("p")], [[(1, 1, 0), (2, 3, 0)], [(1, 2, 0)]])

    def test_returned_lists_are_new(self):
        run = self.run_of("func main() send out 1 while 1 send out 2 end end")
        outputs, able = run.outputs("out"), run.able()
        wanted = [list(outputs), list(able)]
        outputs.append("more")
        able.append("more")
        run.outputs("none").append("more")
        self.assertEqual([run.outputs("out"), run.able(), run.outputs("none")], [*wanted, []])
        self.assertEqual(run.outputs("out"), run.outputs("out"))

    def test_kinds(self):
        run = Run(read("func main() send out 1 == 1 send out not 1 end"))
        self.assertIs(run.turn(), True)
        self.assertIs(run.turn(), False)
        for _, value, _ in run.outputs("out"):
            self.assertIs(type(value), int)
        self.assertIs(type(run.outputs("out")[0]), tuple)
        self.assertIs(type(run.program()), tuple)

    def test_two_runs(self):
        one, two = Run(read(ADDER)), Run(read(ADDER))
        one.give("in", 1)
        all_turns(one)
        self.assertEqual([two.given("in"), two.sent("out"), two.turns()], [0, 0, 0])


if __name__ == "__main__":
    unittest.main()
