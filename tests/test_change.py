import copy
import unittest

from trees import as_lists

from lastingrun.errors import Refused, Unsound
from lastingrun.plain import Run
from lastingrun.text import read


def all_turns(run, most=60):
    many = 0
    while many < most and run.turn():
        many += 1


def seen(run):
    """Everything that can be asked for without knowing more ports than these."""
    ports = ("in", "p", "out", "faults")
    return copy.deepcopy([
        run.picture(), run.program(), run.changes(), run.turns(), run.able(),
        [(run.outputs(port), run.sent(port), run.given(port)) for port in ports],
    ])


class ChangeCase(unittest.TestCase):
    def run_of(self, text):
        run = Run(read(text))
        all_turns(run)
        return run

    def refuses(self, run, text, *wanted):
        before = seen(run)
        with self.assertRaises(Refused) as caught:
            run.change(read(text))
        error = caught.exception
        self.assertEqual((error.task, error.depth, error.word), wanted)
        self.assertEqual(seen(run), before)

    def refused(self, old, new, *wanted):
        """Looks at the word for the first frame that cannot go on from one program to another."""
        self.refuses(self.run_of(old), new, *wanted)

    def changed(self, old, new, *given):
        """The run of the old program, behind all its turns, then changed, given integers and run again."""
        run = self.run_of(old)
        self.assertIsNone(run.change(read(new)))
        self.assertEqual(run.program(), read(new))
        for value in given:
            run.give("in", value)
        all_turns(run)
        return run

    def sends(self, old, new, given, *wanted):
        run = self.changed(old, new, *given)
        self.assertEqual([value for _, value, _ in run.outputs("out")], list(wanted))
        self.assertEqual(run.outputs("faults"), [])


class ExampleTest(ChangeCase):
    def test_document(self):
        run = Run(read("func main() let a = 1 while 1 here top let n = receive in send out n + a end end"))
        self.assertEqual(
            [run.turn(), run.change(read("func main() let a = 9 while 1 here top let n = receive in"
                                         " send out n * a end end")),
             run.give("in", 5), run.turn(), run.outputs("out")],
            [True, None, None, True, [(1, 5, 1)]])
        self.refuses(run, "func main() let b = 1 while 1 here top let n = receive in send out n - b end end",
                     0, 0, "unset")


class WordTest(ChangeCase):
    def test_gone(self):
        """Only the first call of a spawned task can be gone: the others stand in a statement that goes on."""
        self.refused("func main() spawn f() end func f() here top let a = receive in end",
                     "func main() spawn g() end func g() here top let a = receive in end", 1, 0, "gone")

    def test_gone_comes_before_unlabelled(self):
        self.refused("func main() spawn f() end func f() let a = receive in end", "func main() end", 1, 0, "gone")
        run = Run(read("func main() spawn f() end func f() end"))
        run.turn()
        self.refuses(run, "func main() end", 1, 0, "gone")

    def test_a_callee_under_another_name(self):
        self.refused("func main() here top f() end func f() here top let a = receive in end",
                     "func main() here top g() end func g() here top let a = receive in end", 0, 0, "other")

    def test_unlabelled(self):
        self.refused("func main() let a = receive in end", "func main() let a = receive p end", 0, 0, "unlabelled")
        # Labels of other statements, around it, before it and in the new program, do not help.
        self.refused("func main() here top while 1 here low send out 1 let a = receive in end end",
                     "func main() here top while 1 here low send out 1 here mid let a = receive in send out 2 end end",
                     0, 0, "unlabelled")

    def test_a_function_without_statements_is_unlabelled(self):
        run = Run(read("func main() end"))
        self.refuses(run, "func main() here top let a = 1 end", 0, 0, "unlabelled")
        run = Run(read("func main() spawn f(1) end func f(a) end"))
        run.turn()
        self.refuses(run, "func main() spawn f() end func f() end", 1, 0, "unlabelled")
        self.assertIsNone(run.change(read("func main() end func f(a) end")))

    def test_no_label(self):
        self.refused("func main() here top let a = receive in end", "func main() let a = receive in end",
                     0, 0, "no label")
        self.refused("func main() here top let a = receive in end",
                     "func main() here low let a = receive in end", 0, 0, "no label")
        self.refused("func main() here top let a = receive in end",
                     "func main() here low let a = receive in end func f() here top let a = receive in end",
                     0, 0, "no label")

    def test_other(self):
        for new in ("let a = receive p", "let b = receive in", "send in receive in", "let a = 0 + receive in",
                    "let a = (receive in) + 0", "let a = receive in == 1", "if receive in end"):
            self.refused("func main() here top let a = receive in end", f"func main() here top {new} end",
                         0, 0, "other")

    def test_other_in_tests(self):
        for word, other in (("if", "while"), ("while", "if")):
            old = f"func main() let a = 1 here top {word} a < receive in end end"
            self.refused(old, f"func main() let a = 1 here top {other} a < receive in end end", 0, 0, "other")
            self.refused(old, f"func main() let a = 1 here top {word} a <= receive in end end", 0, 0, "other")
            self.refused(old, f"func main() let a = 1 here top {word} 1 < receive in end end", 0, 0, "other")
            self.refused(old, "func main() let a = 1 here top try catch e end end", 0, 0, "other")

    def test_unset(self):
        self.refused("func main() let a = 1 let b = 2 here top let n = receive in send out b end",
                     "func main() let a = 1 let b = 2 here top let n = receive in send out a end", 0, 0, "unset")
        self.refused("func main() here top let n = receive in end",
                     "func main() let a = 1 here top let n = receive in if n send out a end end", 0, 0, "unset")

    def test_unset_by_a_handler(self):
        """The tries around the frame are those of the new function."""
        self.refused("func main() let a = 1 try here top let n = receive in catch e end send out 1 end",
                     "func main() let a = 1 try here top let n = receive in catch e send out a end end",
                     0, 0, "unset")

    def test_unset_at_the_point_itself(self):
        """What the statement reads before the wait need not be live at it."""
        old = "func main() let a = 1 let b = 2 here top let n = a + receive in send out b end"
        self.sends(old, "func main() let b = 2 let a = 1 here top let n = a + receive in send out n + b end",
                   [5], 8)
        self.refused(old, "func main() let a = 1 here top let n = a + receive in send out n + a end", 0, 0, "unset")

    def test_two_words_at_once(self):
        # Without a label, and with other variables: the former is told.
        self.refused("func main() let n = receive in end",
                     "func main() let a = 1 let n = receive in send out a end", 0, 0, "unlabelled")
        # Another statement behind the label, and other variables.
        self.refused("func main() here top let n = receive in end",
                     "func main() let a = 1 here top let m = receive in send out a end", 0, 0, "other")
        self.refused("func main() here top let n = receive in end",
                     "func main() let a = 1 here low let m = receive in send out a end", 0, 0, "no label")

    def test_the_first_frame_that_cannot_go_on(self):
        old = ("func main() here top f(1) end func f(a) here top g(a) send out a end"
               " func g(a) let n = receive in send out n + a end")
        self.refused(old, "func main() here top f(1) end func f(a) here top g(a) send out a end"
                          " func g(a) let n = receive in send out n - a end", 0, 2, "unlabelled")
        self.refused(old, "func main() here top f(1) end func f(a) here low g(a) send out a end"
                          " func g(a) let n = receive in send out n - a end", 0, 1, "no label")
        self.refused(old, "func main() here top f(2) end func f(a) here low g(a) send out a end"
                          " func g(a) let n = receive in send out n - a end", 0, 0, "other")

    def test_tasks_before_depths(self):
        old = ("func main() spawn f() spawn f() here top g() end func f() here top let n = receive in end"
               " func g() here top f() end")
        self.refused(old, "func main() spawn f() spawn f() here top g() end func f() here low let n = receive in end"
                          " func g() here top f() end", 0, 2, "no label")
        old = ("func main() spawn f() spawn g() end func f() fb() end func g() gb() end"
               " func fb() here top let n = receive in end func gb() here top let n = receive in end")
        self.refused(old, old.replace("func fb() here top", "func fb() here low")
                             .replace("func g() gb()", "func g() send out 1 gb()"), 1, 1, "no label")


class GoesOnTest(ChangeCase):
    def test_an_equal_program(self):
        text = "func main() let a = 3 let n = receive in send out n + a end"
        run = self.run_of(text)
        before = run.picture()
        run.change(read(text))
        run.change(as_lists(read(text)))
        self.assertEqual([run.changes(), run.picture(), run.program()], [2, before, read(text)])
        run.give("in", 4)
        run.turn()
        self.assertEqual(run.outputs("out"), [(1, 7, 1)])

    def test_the_count_of_changes(self):
        run = self.run_of("func main() here top let n = receive in end")
        self.refuses(run, "func main() let n = receive in end", 0, 0, "no label")
        self.assertEqual(run.changes(), 0)
        run.change(read("func main() send out 1 here top let n = receive in end"))
        self.assertEqual(run.changes(), 1)
        self.refuses(run, "func main() let n = receive in end", 0, 0, "no label")
        self.assertEqual(run.changes(), 1)

    def test_an_equal_function_goes_on_without_labels(self):
        self.sends("func main() let a = f(2) send out a end func f(a) return a * g() end func g() return receive in end",
                   "func h() end func g() return receive in end func main() let a = f(2) send out a end"
                   " func f(a) return a * g() end", [5], 10)

    def test_calls_that_begin_later_are_of_the_new_functions(self):
        self.sends("func main() while 1 let n = receive in f(n) end end func f(n) send out n end",
                   "func f(n) send out -n g(n) end func main() while 1 let n = receive in f(n) end end"
                   " func g(n) send out n * 10 end", [3, 4], -3, 30, -4, 40)

    def test_calls_in_progress_end_in_their_old_place(self):
        old = "func main() here top send out f(2) + 1 end func f(a) here top let n = receive in return a * n end"
        new = ("func f(a) send out 99 here top let n = receive in return a - n end"
               " func main() send out 98 here top send out f(2) + 1 send out 3 end")
        self.sends(old, new, [7], -4, 3)

    def test_the_place_may_have_another_number(self):
        old = "func main() let a = 4 here top let n = receive in send out n + a end"
        new = ("func main() let b = 1 let a = 2 if b while 1 here top let n = receive in send out n - a a = a + 1 end"
               " end end")
        self.sends(old, new, [7, 7], 3, 2)

    def test_held_values_stay(self):
        old = "func main() let a = 4 here top let n = a * 10 + f(a, receive in) end func f(a, b) return a - b end"
        new = ("func f(a, b) return a * b end func main() let a = 5 here top let n = a * 10 + f(a, receive in)"
               " send out n end")
        self.sends(old, new, [3], 52)

    def test_variables_go_by_their_names(self):
        old = "func main() let a = 1 let b = 2 let c = 3 here top let n = receive in send out a + b + c end"
        new = "func main() let c = 7 let a = 8 here top let n = receive in send out c * 10 + a end"
        run = self.changed(old, new)
        self.assertEqual(run.picture()[2][0][1][0], ("main", 2, 0, (), (("a", 1), ("c", 3))))
        run.give("in", 1)
        all_turns(run)
        self.assertEqual(run.outputs("out"), [(1, 31, 1)])

    def test_a_variable_that_is_dropped_does_not_come_back(self):
        run = self.run_of("func main() let a = 1 here top let n = receive in send out a end")
        run.change(read("func main() let a = 1 here top let n = receive in send out n end"))
        self.refuses(run, "func main() let a = 1 here top let n = receive in send out a end", 0, 0, "unset")

    def test_a_labelled_if(self):
        old = "func main() let k = 2 here top if k < receive in send out 1 else send out 2 end send out 3 end"
        new = "func main() let k = 5 here top if k < receive in send out 10 end send out 30 end"
        self.sends(old, new, [3], 10, 30)
        self.sends(old, new, [2], 30)
        new = "func main() let k = 5 here top if k < receive in else send out 20 send out 21 end end"
        self.sends(old, new, [1], 20, 21)

    def test_a_labelled_while(self):
        old = "func main() let k = 2 here top while k < receive in send out k k = k + 1 end send out 3 end"
        new = "func main() let k = 5 here top while k < receive in send out -k k = k + 2 end end"
        self.sends(old, new, [9, 9, 1], -2, -4)

    def test_a_labelled_while_at_its_beginning(self):
        run = Run(read("func main() let k = 2 send out 0 here top while k k = k + 1 end end"))
        run.turn()
        self.assertEqual(run.picture()[2][0][1][0], ("main", 2, None, (), (("k", 4),)))
        run.change(read("func main() let k = 2 here top while k send out k k = 0 end end"))
        self.assertEqual(run.picture()[2][0][1][0], ("main", 1, None, (), (("k", 4),)))
        all_turns(run)
        self.assertEqual(run.outputs("out"), [(1, 0, 0), (2, 4, 1)])

    def test_within_a_labelled_while(self):
        run = Run(read("func main() let k = 2 here top while k k = k + 1 end end"))
        run.turn()
        self.assertEqual(run.picture()[2][0][1][0], ("main", 2, None, (), (("k", 4),)))
        self.refuses(run, "func main() let k = 2 here top while k k = k - 1 end end", 0, 0, "unlabelled")

    def test_a_labelled_try(self):
        text = "func main() " + "send out 0 " * 6 + "here top try {0} end end"
        run = Run(read(text.format("send out 1 catch e send out 2")))
        run.turn()
        run.change(read(text.format("throw 5 catch f send out f")))
        run.turn()
        self.assertEqual(run.outputs("out")[6:], [(7, 5, 1)])

    def test_another_name_after_catch_and_an_empty_body(self):
        text = "func main() let a = 3 " + "send out 0 " * 5 + "here top try {0} end send out a end"
        run = Run(read(text.format("throw a catch e send out 2")))
        run.turn()
        self.assertEqual(run.picture()[2][0][1][0][:3], ("main", 6, None))
        run.change(read("func main() let a = 3 here top try catch b send out b end send out a end"))
        self.assertEqual(run.picture()[2][0][1][0], ("main", 1, None, (), (("a", 3),)))
        run.turn()
        self.assertEqual([run.outputs("out")[5:], run.able()], [[(6, 3, 1)], []])

    def test_the_tries_around_are_those_of_the_new_function(self):
        old = "func main() here top f() end func f() here top let n = receive in end"
        new = ("func main() try here top f() send out 1 catch e send out e end end"
               " func f() here top let n = receive in throw n * 2 end")
        self.sends(old, new, [7], 14)
        run = self.changed("func main() try here top let n = receive in throw n catch e send out e end end",
                           "func main() here top let n = receive in throw n end", 5)
        self.assertEqual([run.outputs("out"), run.outputs("faults")], [[], [(1, 0, 1)]])

    def test_a_frame_within_a_handler(self):
        old = "func main() try throw 3 catch e here top let n = receive in send out e + n end end"
        new = "func main() let e = 8 here top let n = receive in send out e * n end"
        self.sends(old, new, [5], 15)
        new = "func main() let n = 4 try send out 1 catch e here top n = receive in end end"
        self.refused(old, new, 0, 0, "other")
        new = "func main() try try send out 1 catch e here top let n = receive in throw e + n end catch f send out f end end"
        self.sends(old, new, [5], 8)

    def test_an_arity_may_change(self):
        old = "func main() let a = 1 here top let n = receive in f(a) end func f(a) send out a end"
        new = "func main() let a = 1 here top let n = receive in f(a, n) end func f(a, b) send out a + b end"
        self.sends(old, new, [5], 6)

    def test_parameters_may_change(self):
        old = "func main() spawn f(4, 5) end func f(a, b) here top let n = receive in send out a + b end"
        new = "func main() spawn f(4) end func f(b) here top let n = receive in send out b * n end"
        self.sends(old, new, [3], 15)

    def test_a_task_before_its_first_turn(self):
        run = Run(read("func main() spawn f(4) end func f(a) here top send out a end"))
        run.turn()
        run.change(read("func main() end func f(b) let a = 2 here top send out a send out 7 end"))
        all_turns(run)
        self.assertEqual([value for _, value, _ in run.outputs("out")], [4, 7])

    def test_records_are_the_same(self):
        old = "func main() let a = new(x: 1) let b = a here top let n = receive in a.x = b end"
        new = "func main() let b = 1 let a = 2 here top let n = receive in a.x = n send out b.x end"
        self.sends(old, new, [5], 5)

    def test_what_stays(self):
        old = "func main() spawn f() send p 4 send p 5 here top let n = receive in send out n end func f() let x = receive q end"
        run = self.run_of(old)
        for port, value in (("q", 1), ("s", 2), ("in", 3)):
            run.give(port, value)
        run.forget("p", 1)
        before = run.picture()
        run.change(read(old.replace("send p 4", "")))
        self.assertEqual([run.outputs("p"), run.sent("p"), run.given("q"), run.given("in"), run.turns(), run.able()],
                         [[(2, 5, 0)], 2, 1, 1, 2, [0, 1]])
        self.assertEqual(run.picture()[:2] + run.picture()[3:], before[:2] + before[3:])
        all_turns(run)
        self.assertEqual(run.outputs("out"), [(1, 3, 2)])

    def test_tasks_that_have_ended_do_not_matter(self):
        run = self.run_of("func main() f() end func f() end")
        run.change(read("func main() let a = 1 end"))
        self.assertEqual([run.changes(), run.able(), run.turn()], [1, [], False])

    def test_new_tasks_go_on_with_the_numbers(self):
        old = "func main() spawn f() here top let n = receive in spawn f() end func f() send out 1 end"
        run = self.changed(old, old.replace("send out 1", "send out 2"), 0)
        self.assertEqual([run.outputs("out"), run.picture()[1]], [[(1, 1, 1), (2, 2, 3)], 3])

    def test_changes_time_and_again(self):
        text = "func main() let a = 0 while 1 here top let n = receive in a = a + n send out a * {0} end end"
        run = self.run_of(text.format(1))
        wanted = []
        for factor in range(2, 6):
            run.change(read(text.format(factor)))
            run.give("in", 1)
            run.turn()
            wanted.append((factor - 1) * factor)
        self.assertEqual([value for _, value, _ in run.outputs("out")], wanted)
        self.assertEqual(run.changes(), 4)

    def test_long_sums(self):
        text = " + ".join(["1"] * 900)
        old = f"func main() here top let n = {text} + receive in send out n end"
        self.sends(old, old.replace("send out n", "send out n * 2"), [3], 1806)
        run = self.run_of(old)
        run.change(read(old))
        self.assertEqual(run.changes(), 1)


class UnsoundTest(ChangeCase):
    def test_unsound_comes_first(self):
        run = self.run_of("func main() let n = receive in end")
        before = seen(run)
        for text, faults in (("", [("", -1, "main")]), ("func main(a) end", [("", -1, "main")]),
                             ("func main() let n = m send out f() end",
                              [("main", 0, "unknown"), ("main", 1, "unknown")])):
            with self.assertRaises(Unsound) as caught:
                run.change(read(text))
            self.assertEqual(caught.exception.faults, faults)
            self.assertEqual(seen(run), before)
        run.give("in", 1)
        run.turn()
        self.assertEqual(run.able(), [])

    def test_unsound_for_a_run_that_would_not_refuse(self):
        run = self.run_of("func main() here top let n = receive in end")
        with self.assertRaises(Unsound):
            run.change(read("func main() here top let n = receive in send out m end"))
        self.assertEqual([run.changes(), run.program()], [0, read("func main() here top let n = receive in end")])


class CopyTest(ChangeCase):
    def test_a_list_that_is_changed_afterwards(self):
        text = "func main() here top let n = receive in send out n + 1 end"
        run = self.run_of("func main() here top let n = receive in end")
        program = as_lists(read(text))
        run.change(program)
        self.assertEqual(program, as_lists(read(text)))
        program[0][2][1][2][3][1] = 50
        program.clear()
        self.assertEqual(run.program(), read(text))
        run.give("in", 1)
        run.turn()
        self.assertEqual(run.outputs("out"), [(1, 2, 1)])

    def test_by_name(self):
        run = self.run_of("func main() here top let n = receive in end")
        self.assertIsNone(run.change(program=read("func main() here top let n = receive in end")))

    def test_a_refused_change_may_be_made_later(self):
        run = self.run_of("func main() let n = receive in here top let m = receive in end")
        new = "func main() here top let m = receive in send out m end"
        self.refuses(run, new, 0, 0, "unlabelled")
        run.give("in", 1)
        run.turn()
        run.change(read(new))
        run.give("in", 6)
        run.turn()
        self.assertEqual(run.outputs("out"), [(1, 6, 2)])


if __name__ == "__main__":
    unittest.main()
