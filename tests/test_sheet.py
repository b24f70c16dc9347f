import inspect
import unittest

from lastingrun.errors import BadLine, BadText, Full, Unsound
from lastingrun.sheet import answers

ECHO = "func main() while 1 send out receive in end end"
MAKER = "func main() let r = none while 1 r = new(n: r, v: receive in) send out r.v end end"
LABELLED = "func main() while 1 here top let n = receive in send out n end end"
DOUBLE = "func main()\n  while 1\n    here top let n = receive in\n    send out n * 2\n  end\nend"


def sheet(*requests, text=ECHO):
    return "\n".join([f"program {len(text.split(chr(10)))}", text, *requests])


class SheetCase(unittest.TestCase):
    def answered(self, pairs, text=ECHO, size=200):
        """Looks at the requests of a sheet with their answers, pairs."""
        requests = [request for request, _ in pairs]
        self.assertEqual(answers(sheet(*requests, text=text), size), [answer for _, answer in pairs])

    def bad(self, number, text):
        with self.assertRaises(BadLine) as caught:
            answers(text)
        self.assertEqual(caught.exception.number, number, text)

    def bad_request(self, *lines):
        """Looks at requests that are none; all else is right."""
        for line in lines:
            self.bad(2, sheet(line))
            self.bad(3, sheet("turns", line))
            self.bad(3, sheet("turns", line, "turns", "x"))


class ExampleTest(unittest.TestCase):
    def test_document(self):
        self.assertEqual(
            answers("program 1\nfunc main() while 1 send out receive in end end\nrun 5\naccept in 1 4\nrun 5\nout out\n"
                    "commit\nout out\ncrash -\nout out\ntook out 2"),
            ["1", "new", "1", "-", "2", "1:4", "recovered 2", "1:4", "error NoOutput"])
        self.assertEqual(
            answers("program 1\nfunc main() while 1 send out receive in end end\naccept in 1 4\nrun 5\nfail 1\ncommit\n"
                    "turns\ncrash 0\nout out"),
            ["new", "1", "done", "error Stopped", "error Stopped", "recovered 1", "1:4"])


class AnswerTest(SheetCase):
    def test_accept(self):
        self.answered([
            ("accept in 1 4", "new"), ("accept in 1 4", "known"), ("accept in 1 5", "known"), ("accept in 3 5", "error Gap"),
            ("accept in 0 5", "error Gap"), ("accept in 2 -1000000000000", "new"), ("accept in 3 1000000000000", "new"),
            ("accept in 4 0", "new"), ("accept other 1 0", "new"), ("accept twelveletter 1 0", "new"),
            ("accept in 9999999999999 0", "error Gap"),
            ("run 99", "2"), ("commit", "2"),
            ("out out", "1:4 2:-1000000000000 3:1000000000000 4:0")])

    def test_accept_full(self):
        requests = [(f"accept in {number} 1", "new") for number in range(1, 48)]
        self.answered([*requests, ("accept in 48 1", "error Full"), ("accept in 47 1", "known"), ("commit", "0"),
                       ("accept in 48 1", "new"), ("commit", "error Full"), ("snapshot", "finished"), ("commit", "0"),
                       ("confirmed in", "48")])

    def test_run_and_turns(self):
        self.answered([("turns", "0"), ("run 0", "0"), ("run 3", "1"), ("run 3", "0"), ("turns", "1"), ("fixed", "0"),
                       ("commit", "1"), ("fixed", "1"), ("run 9999999999999", "0")])

    def test_out_and_took(self):
        self.answered([
            ("out out", "-"), ("took out 0", "done"), ("took out 1", "error NoOutput"), ("accept in 1 7", "new"),
            ("accept in 2 8", "new"), ("run 9", "1"), ("out out", "-"), ("took out 1", "error NoOutput"),
            ("commit", "1"), ("out out", "1:7 2:8"), ("took out 1", "done"), ("out out", "2:8"), ("took out 1", "done"),
            ("took out 3", "error NoOutput"), ("took out 2", "done"), ("out out", "-"), ("out faults", "-")])

    def test_confirmed(self):
        self.answered([("confirmed in", "0"), ("accept in 1 7", "new"), ("confirmed in", "0"), ("commit", "0"),
                       ("confirmed in", "1"), ("confirmed other", "0")])

    def test_records_and_collect(self):
        text = "func main() while 1 let r = new(v: receive in) send out r.v end end"
        self.answered([
            ("records", "0"), ("accept in 1 7", "new"), ("accept in 2 7", "new"), ("run 9", "2"), ("records", "2"),
            ("collect 0", "open"), ("collect 1", "open"), ("collect 9999", "finished"), ("records", "0"),
            ("collect", "finished"), ("collect 1", "open"), ("collect", "finished")], text=text)

    def test_snapshot(self):
        self.answered([
            ("snapshot", "finished"), ("snapshot 0", "finished"), ("accept in 1 7", "new"), ("run 1", "1"),
            ("snapshot 0", "open"), ("fixed", "0"), ("snapshot 999", "finished"), ("fixed", "1"), ("out out", "1:7"),
            ("confirmed in", "1")])

    def test_snapshot_full(self):
        size = 19
        while True:
            try:
                answers(sheet(text=MAKER), size)
                break
            except Full:
                size += 1
        requests = [(f"accept in {number} 1", "new") for number in range(1, 41)]
        self.answered([*requests, ("run 99", "21"), ("snapshot", "error Full"), ("fixed", "0"), ("commit", "21")],
                      text=MAKER, size=size)

    def test_writes(self):
        found = answers(sheet("writes", "writes", "accept in 1 4", "commit", "writes", "crash -", "writes", "fail 0",
                              "accept in 2 4", "commit", "crash -", "writes", "snapshot", "writes"))
        first = int(found[0])
        self.assertGreater(first, 2)
        self.assertEqual([found[1], found[4], found[6], found[11]], [str(first), str(first + 1)] + [str(first + 1)] * 2)
        self.assertGreater(int(found[13]), first + 2)

    def test_change(self):
        lines = DOUBLE.split("\n")
        self.answered([
            ("accept in 1 7", "new"), ("run 9", "1"), (f"change {len(lines)}\n{DOUBLE}", "done"),
            ("accept in 2 7", "new"), ("run 9", "1"), ("commit", "2"), ("out out", "1:7 2:14"),
            ("change 1\nfunc main(", "error BadText"), ("change 1\n", "error Unsound"), ("change 2\n\n", "error Unsound"),
            ("change 1\nfunc main() a = 1 end", "error Unsound"), ("change 1\nfunc main() end", "error Refused"),
            ("change 1\nchange 1", "error BadText"), ("crash -", "recovered 2"), ("accept in 3 7", "new"),
            ("run 9", "1"), (f"change 2\n\n{LABELLED}", "done"), ("accept in 4 7", "new"), ("run 9", "1"),
            ("commit", "4"), ("out out", "1:7 2:14 3:14 4:7")], text=LABELLED)

    def test_a_text_of_several_lines(self):
        self.answered([("accept in 1 7", "new"), ("run 9", "1"), ("commit", "1"), ("out out", "1:14")], text=DOUBLE)
        self.assertEqual(answers(f"program 3\n\n{ECHO}\n\nrun 1"), ["1"])
        self.assertEqual(answers(text=f"program 2\n{ECHO}\n", size=100), [])

    def test_no_requests(self):
        self.assertEqual(answers(sheet()), [])

    def test_the_size(self):
        self.assertEqual(inspect.signature(answers).parameters["size"].default, 200)
        requests = []
        for number in range(1, 60):
            requests += [f"accept in {number} 1", "run 9", "commit", "snapshot"]
        text = sheet(*requests, text=MAKER.replace("n: r,", "n: r, a: 1, b: 1, c: 1, d: 1,"))
        found = [answers(text), answers(text, 200), answers(text, size=100)]
        self.assertEqual(found[0], found[1])
        self.assertGreater(found[2].count("error Full"), found[0].count("error Full"))


class FailTest(SheetCase):
    def test_stopped_until_the_crash(self):
        self.answered([
            ("accept in 1 7", "new"), ("run 1", "1"), ("fail 0", "done"), ("turns", "1"), ("accept in 2 7", "new"),
            ("snapshot", "error Stopped"), ("turns", "error Stopped"), ("accept in 1 7", "error Stopped"),
            ("fail 9", "error Stopped"), ("change 1\nx", "error Stopped"), ("out out", "error Stopped"),
            ("collect", "error Stopped"), ("writes", "error Stopped"), ("crash 5", "error NoLoose"),
            ("turns", "error Stopped"), ("crash -", "recovered 0"), ("turns", "0"), ("accept in 1 8", "new"),
            ("run 1", "1"), ("commit", "1"), ("out out", "1:8")])

    def test_a_new_one_replaces_the_old_one(self):
        self.answered([("fail 0", "done"), ("fail 2", "done"), ("accept in 1 7", "new"), ("commit", "0"),
                       ("accept in 2 7", "new"), ("commit", "error Stopped"), ("crash -", "recovered 0"),
                       ("confirmed in", "1")])

    def test_crash(self):
        accepts = [(f"accept in {number} 1", "new") for number in range(1, 9)]
        for kept, confirmed in (("-", 0), ("0", 3), ("1", 0), ("0 1", 6), ("0 2", 3), ("0 1 2", 8), ("1 2", 0)):
            self.answered([*accepts, ("fail 3", "done"), ("commit", "error Stopped"), (f"crash {kept}", "recovered 0"),
                           ("confirmed in", str(confirmed)), ("turns", "0")])
        self.answered([*accepts, ("fail 3", "done"), ("commit", "error Stopped"), ("crash 0 1 2 3", "error NoLoose"),
                       ("crash 3", "error NoLoose"), ("crash 2 9999999999999", "error NoLoose"),
                       ("crash 0 1 2", "recovered 0"), ("confirmed in", "8")])

    def test_crash_without_a_failure(self):
        self.answered([("accept in 1 7", "new"), ("crash 0", "error NoLoose"), ("confirmed in", "0"),
                       ("accept in 1 7", "known"), ("crash -", "recovered 0"), ("accept in 1 8", "new"),
                       ("run 1", "1"), ("snapshot", "finished"), ("crash -", "recovered 1"), ("out out", "1:8")])


class FormTest(SheetCase):
    def test_words(self):
        self.bad_request(
            "", " ", "-", "x", "Turns", "turn", "program 1", "turns 1", "turns ", " turns", "commit 1", "fixed now",
            "records ", "writes\t", "  ", "run", "run ", "run  1", " run 1", "run 1 ", "run 1 2", "run x", "run -1",
            "run 01", "run 00", "run +1", "run 1.0", "run 12345678901234", "run 00000000000001", "run -0", "run -")
        self.bad_request(
            "accept", "accept in", "accept in 1", "accept in 1 2 3", "accept  in 1 2", "accept in  1 2", "accept in 1  2",
            "accept in 1 2 ", " accept in 1 2", "accept 1 in 2", "accept in -1 2", "accept in 01 2", "accept in 1 02",
            "accept in 1 -0", "accept in 1 -01", "accept in 1 - 1", "accept in 1 --1", "accept in 1 +1", "accept in 1 -",
            "accept in 1 1000000000001", "accept in 1 -1000000000001", "accept in 1 9999999999999",
            "accept in 1 10000000000000", "accept in x 1", "accept in 1 x", "accept in 12345678901234 1")
        self.bad_request(
            "out", "out ", "out x y", "took out", "took out x", "took out -1", "took 1", "took out 1 1", "took out 01",
            "fail", "fail x", "fail -1", "fail 01", "confirmed", "confirmed in in", "snapshot x", "snapshot -1",
            "snapshot 1 1", "snapshot ", "snapshot 01", "collect x", "collect ", "collect 1 2", "collect -")

    def test_ports(self):
        for port in ("end", "none", "mod", "receive", "In", "i1", "1", "a_b", "abcdefghijklm", "a-b", "a.b", ""):
            self.bad_request(f"out {port}", f"took {port} 0", f"confirmed {port}", f"accept {port} 1 1")
        for port in ("a", "abcdefghijkl", "ends", "program", "crash"):
            self.answered([(f"out {port}", "-"), (f"took {port} 0", "done"), (f"confirmed {port}", "0"),
                           (f"accept {port} 1 1", "new")])

    def test_crash(self):
        self.bad_request("crash", "crash ", "crash - -", "crash -1", "crash 1 0", "crash 0 0", "crash 0 2 1", "crash - 1",
                         "crash 1 -", "crash 01", "crash 0  1", "crash 0 1 ", " crash 0", "crash x", "crash 0 x",
                         "crash 12345678901234", "crash 0,1")

    def test_change(self):
        self.bad_request("change", "change 0", "change x", "change -1", "change 01", "change 1 1", "change ", "change  1",
                         " change 1", "change 12345678901234")
        self.bad(3, sheet("change 1"))
        self.bad(4, sheet("change 2", "x"))
        self.bad(4, sheet("turns", "change 1"))
        self.bad(3, sheet("change 9999999999999"))
        self.bad(4, sheet("change 1", "turns", "x"))

    def test_the_first_line(self):
        for line in ("", "program", "program ", "program 0", "program x", "program -1", "program 01", "program 1 1",
                     " program 1", "program  1", "program 1 ", "Program 1", "run 1", "program 12345678901234", "change 1"):
            self.bad(0, f"{line}\n{ECHO}")
            self.bad(0, line)
        self.bad(1, "program 1")
        self.bad(2, f"program 2\n{ECHO}")
        self.bad(3, f"program 4\n{ECHO}\n")
        self.bad(2, f"program 9999999999999\n{ECHO}")

    def test_empty_lines(self):
        self.bad(2, sheet(""))
        self.bad(3, sheet("turns", ""))
        self.bad(2, sheet("", "turns"))
        self.bad(4, sheet("turns", "turns", "", "turns"))

    def test_before_anything_is_done(self):
        # The program is none, but the sheet is looked at first.
        self.bad(2, "program 1\nfunc main(\nrun")
        self.bad(3, "program 1\nfunc main() a = 1 end\nturns\n")


class StartTest(unittest.TestCase):
    def test_errors_of_the_start(self):
        with self.assertRaises(BadText) as caught:
            answers("program 2\nfunc main()\n let a =\nturns")
        self.assertEqual(caught.exception.at, 20)
        with self.assertRaises(Unsound) as caught:
            answers("program 1\nfunc main() a = 1 end\nturns")
        self.assertEqual(caught.exception.faults, [("main", 0, "unknown")])
        with self.assertRaises(Full) as caught:
            answers(sheet("turns"), 20)
        self.assertEqual(caught.exception.count, 2)
        self.assertRaises(Full, answers, sheet(), size=19)


if __name__ == "__main__":
    unittest.main()
