import copy
import unittest

from stores import Watched, root

from lastingrun.audit import audit
from lastingrun.disk import Disk, disk_of
from lastingrun.errors import BadText, Full, Gap, NoOutput, NoRoot, Refused, Stopped, Unsound
from lastingrun.host import recover, start
from lastingrun.limits import LOG_BLOCKS
from lastingrun.log import Log
from lastingrun.plain import Run
from lastingrun.store import Store
from lastingrun.text import read, write

ADDER = "func main() let s = 0 while 1 s = s + receive in send out s end end"
ECHO = "func main() spawn f() while 1 send out receive in end end func f() while 1 send p receive p end end"
MAKER = "func main() let r = none while 1 r = new(n: r, v: receive in) send out r.v end end"
DROPPER = "func main() while 1 let r = new(v: receive in) send out r.v end end"


def records(disk):
    """All RECORDs of the log that a recovery would read."""
    block, record, epoch, _ = Store(disk, 18, disk.size()).facts()
    return Log(disk, 2, 16, block, record, epoch).records(record)


def feed(host, count, port="in", value=3):
    """Sends so many inputs to a port."""
    for _ in range(count):
        host.accept(port, given(host, port) + 1, value)


def given(host, port):
    try:
        host.accept(port, 0, 0)
    except Gap as gap:
        return gap.number - 1


def shown(host):
    """All that the queries of a host return."""
    ports = [(host.confirmed(port), host.outbox(port), given(host, port)) for port in ("in", "p", "out", "faults")]
    return (host.turns(), host.fixed(), host.records(), host.picture(), host.able(), host.text(), ports)


class HostCase(unittest.TestCase):
    def begin(self, text=ADDER, size=300):
        self.disk = Watched(size)
        self.host = start(self.disk, text)
        self.disk.done = []

    def gap(self, port, number, wanted):
        before = shown(self.host)
        with self.assertRaises(Gap) as caught:
            self.host.accept(port, number, 1)
        self.assertEqual(caught.exception.number, wanted)
        self.assertEqual(shown(self.host), before)

    def full(self, call, count=LOG_BLOCKS):
        before = shown(self.host), self.disk.image()
        with self.assertRaises(Full) as caught:
            call()
        self.assertEqual(caught.exception.count, count)
        self.assertEqual(shown(self.host), before[0])
        return self.disk.image() == before[1]

    def no_output(self, port, number):
        before = shown(self.host)
        with self.assertRaises(NoOutput) as caught:
            self.host.took(port, number)
        self.assertEqual(caught.exception.number, number)
        self.assertEqual(shown(self.host), before)

    def crash(self, kept=()):
        self.disk.crash(kept)
        self.host = recover(self.disk)
        self.disk.done = []


class ExampleTest(unittest.TestCase):
    def test_a_crash(self):
        disk = Disk(200)
        host = start(disk, ADDER)
        self.assertEqual([host.run(1), host.accept("in", 1, 5), host.run(9), host.outbox("out"), host.commit(),
                          host.outbox("out"), host.confirmed("in")], [1, True, 1, [], 2, [(1, 5)], 1])
        self.assertEqual([host.accept("in", 2, 6), host.run(9), host.turns(), disk.crash([])], [True, 1, 3, None])
        host = recover(disk)
        self.assertEqual([host.turns(), host.outbox("out"), host.accept("in", 1, 5), host.accept("in", 2, 8),
                          host.run(9), host.commit(), host.outbox("out")],
                         [2, [(1, 5)], False, True, 1, 3, [(1, 5), (2, 13)]])

    def test_a_snapshot(self):
        host = start(Disk(200), ADDER)
        self.assertEqual([host.run(9), host.accept("in", 1, 5), host.confirmed("in"), host.snapshot(),
                          host.confirmed("in"), host.fixed()], [1, True, 0, True, 1, 1])
        self.assertEqual(host.picture(), (0, 1, ((0, (("main", 2, 0, (0,), ()),)),), (("in", (5,)),), ()))


class StartTest(HostCase):
    def test_what_is_on_the_disk(self):
        self.begin()
        image = self.disk.image()
        self.assertEqual(image[0], ("root", 0, None, 0, 0, 0, 0, 1, 0))
        self.assertEqual(image[1][:2] + image[1][5:], ("root", 1, 0, 0, 1, 0))
        self.assertEqual(image[2:18], ((),) * 16)
        self.assertEqual([self.disk.loose(), audit(self.disk)], [[], []])
        self.assertEqual([self.host.turns(), self.host.fixed(), self.host.text()], [0, 0, write(read(ADDER))])
        self.assertEqual(self.host.picture(), Run(read(ADDER)).picture())

    def test_a_text_that_is_no_program(self):
        disk = Disk(100)
        for text, at in (("func main() let a = end", 20), ("x", 0), ("func main()", 11)):
            with self.assertRaises(BadText) as caught:
                start(disk, text)
            self.assertEqual(caught.exception.at, at)
        with self.assertRaises(Unsound) as caught:
            start(disk=disk, text="func main() a = 1 end")
        self.assertEqual(caught.exception.faults, [("main", 0, "unknown")])
        self.assertEqual([disk.writes(), disk.image()], [0, ((),) * 100])

    def test_a_disk_that_is_too_small(self):
        for size in (19, 20, 21):
            with self.assertRaises(Full) as caught:
                start(Disk(size), ADDER)
            self.assertEqual(caught.exception.count, size - 18)
        for size in (0, 1, 2, 3, 17, 18):
            disk = Disk(size)
            with self.assertRaises(Full) as caught:
                start(disk, ADDER)
            self.assertEqual([caught.exception.count, disk.writes()], [size - 18, 0])
            self.assertRaises(BadText, start, Disk(size), "x")
        self.assertRaises(Full, start, Disk(21), MAKER + " func f(" + ", ".join("abcdefghijklmnop") + ") end")

    def test_the_least_disk(self):
        size = 19
        while True:
            try:
                host = start(Disk(size), ADDER)
                break
            except Full as full:
                self.assertEqual(full.count, size - 18)
                size += 1
        self.assertLess(size, 40)
        self.assertEqual(host.turns(), 0)

    def test_every_failure(self):
        """The disk fails before start is done; then it is lost, or start was done after all."""
        many = 0
        while True:
            disk = Disk(100)
            disk.fail_after(many)
            try:
                start(disk, ADDER)
                break
            except Stopped:
                pass
            loose = len(disk.loose())
            for kept in ([], list(range(loose)), list(range(0, loose, 2)), list(range(1, loose, 2))):
                other = copy.deepcopy(disk)
                other.crash(kept)
                newest = root(other.image())
                if newest is None or newest[1] == 0:
                    self.assertRaises(NoRoot, recover, other)
                else:
                    self.assertEqual(recover(other).picture(), Run(read(ADDER)).picture())
            many += 1
        self.assertGreater(many, 5)

    def test_no_root(self):
        self.assertRaises(NoRoot, recover, Disk(100))
        self.assertRaises(NoRoot, recover, disk_of((("root", 0, None, 0, 0, 0, 0, 1, 0),) + ((),) * 99))
        self.assertRaises(NoRoot, recover, disk_of(((), ("root", 0, None, 0, 0, 0, 0, 1, 0),) + ((),) * 99))


class AcceptTest(HostCase):
    def test_numbers(self):
        self.begin(ECHO)
        host = self.host
        for number in (-1, 0, 2, 3, 10 ** 9):
            self.gap("in", number, 1)
        self.assertIs(host.accept("in", 1, 5), True)
        for value in (5, 6):
            self.assertIs(host.accept("in", 1, value), False)
        for number in (-5, 0, 3):
            self.gap("in", number, 2)
        self.assertIs(host.accept(port="p", number=1, value=7), True)
        self.assertIs(host.accept("in", 2, 8), True)
        self.gap("p", 3, 2)
        self.gap("other", 2, 1)
        self.assertEqual([host.accept("in", 1, 5), host.accept("in", 2, 5), host.accept("p", 1, 1)], [False] * 3)
        host.run(9)
        host.commit()
        self.assertEqual([host.accept("in", 1, 5), host.outbox("out"), host.outbox("p")],
                         [False, [(1, 5), (2, 8)], [(1, 7)]])
        self.crash()
        self.assertEqual([self.host.accept("in", 2, 5), self.host.accept("p", 1, 5)], [False, False])
        self.gap("in", 4, 3)
        self.gap("in", 0, 3)

    def test_nothing_is_written(self):
        self.begin()
        self.disk.fail_after(0)
        self.host.accept("in", 1, 5)
        self.host.run(4)
        self.host.change(ADDER)
        self.host.collect()
        self.assertEqual([self.host.confirmed("in"), self.host.outbox("out"), self.disk.loose()], [0, [], []])
        self.host.took("out", 0)
        self.assertEqual(self.disk.done, [])

    def test_full_by_waiting_records(self):
        """Three RECORDs of inputs fit into a block; 16 blocks take 48 of them, or 47 and a fixed one."""
        self.begin()
        feed(self.host, 47)
        self.full(lambda: self.host.accept("in", 48, 3))
        self.full(lambda: self.host.accept("p", 1, 3))
        self.assertIs(self.host.accept("in", 47, 3), False)
        self.gap("in", 49, 48)
        self.assertEqual([self.host.run(3), self.host.commit()], [3, 3])
        self.assertEqual([len(records(self.disk)), records(self.disk)[47], self.disk.read(17)[4]],
                         [48, ("fixed", 3), 3])
        # They do not wait any more, but the log is full.
        self.assertIs(self.host.accept("in", 48, 4), True)
        self.full(self.host.commit)
        self.assertEqual(self.host.confirmed("in"), 47)
        self.host.snapshot()
        self.assertEqual([self.host.confirmed("in"), self.host.commit(), records(self.disk)], [48, 3, [("in", 3, "in", 48, 4)]])

    def test_full_for_a_change(self):
        self.begin(ECHO)
        feed(self.host, 47)
        self.full(lambda: self.host.change(ECHO))
        self.full(lambda: self.host.change("func main() end"))
        self.full(lambda: self.host.change("func main() a = 1 end"))
        self.assertRaises(BadText, self.host.change, "func main()")
        self.begin(ECHO)
        # A RECORD of a change has four ATOMs: three of them and a fixed one fit into a block.
        feed(self.host, 45)
        for _ in range(3):
            self.host.change(ECHO)
        self.full(lambda: self.host.change(ECHO))
        self.assertEqual(self.host.commit(), 0)
        self.assertEqual([len(records(self.disk)), records(self.disk)[-1]], [48, ("change", 0, 3, write(read(ECHO)))])

    def test_the_log_is_freed_by_a_snapshot(self):
        self.begin()
        for number in range(1, 17):
            self.host.accept("in", number, 1)
            self.assertEqual(self.host.commit(), 0)
        self.host.accept("in", 17, 1)
        self.assertTrue(self.full(self.host.commit))
        self.assertEqual(self.host.snapshot(0), False)
        self.assertTrue(self.full(self.host.commit))
        self.assertTrue(self.host.snapshot())
        self.assertEqual([self.host.confirmed("in"), self.host.commit()], [17, 0])
        self.assertEqual(self.disk.read(2), ("log", 16, 1, 16, 1, 5, "in", 0, "in", 17, 1))
        # The place of the cut is that of the beginning.
        for number in range(18, 33):
            self.host.accept("in", number, 1)
            self.host.commit()
        self.host.snapshot(0)
        self.host.accept("in", 33, 1)
        self.assertTrue(self.full(self.host.commit))
        self.host.snapshot()
        self.host.commit()
        self.assertEqual([self.disk.read(2)[1], self.host.confirmed("in")], [32, 33])


class CommitTest(HostCase):
    def test_what_is_written(self):
        self.begin()
        self.host.accept("in", 1, 5)
        self.host.run(1)
        self.host.accept("p", 1, -7)
        self.host.change(ADDER)
        self.host.run(9)
        self.assertEqual(self.host.commit(), 1)
        self.assertEqual(self.disk.done, [
            (2, ("log", 0, 1, 0, 3, 5, "in", 0, "in", 1, 5, 5, "in", 1, "p", 1, -7, 4, "change", 1, 1,
                 write(read(ADDER)))), "barrier"])
        self.assertEqual(records(self.disk), [("in", 0, "in", 1, 5), ("in", 1, "p", 1, -7),
                                              ("change", 1, 1, write(read(ADDER)))])

    def test_of_nothing_and_twice(self):
        self.begin()
        self.disk.fail_after(0)
        self.assertEqual([self.host.commit(), self.host.commit(), self.host.fixed()], [0, 0, 0])
        self.disk.fail_after(10 ** 6)
        self.host.run(5)
        self.assertEqual([self.host.turns(), self.host.fixed(), self.host.commit(), self.host.fixed()], [1, 0, 1, 1])
        self.assertEqual(self.disk.done, [(2, ("log", 0, 1, 0, 1, 2, "fixed", 1)), "barrier"])
        self.assertEqual([self.host.commit(), len(self.disk.done)], [1, 2])

    def test_when_the_last_record_names_the_turns(self):
        self.begin()
        self.host.run(1)
        self.host.accept("in", 1, 5)
        self.assertEqual([self.host.commit(), self.host.fixed()], [1, 1])
        self.host.accept("in", 2, 5)
        self.assertEqual(self.host.commit(), 1)
        self.host.run(1)
        self.assertEqual(self.host.commit(), 2)
        self.assertEqual(records(self.disk), [("in", 1, "in", 1, 5), ("in", 1, "in", 2, 5), ("fixed", 2)])

    def test_a_fixed_turn_by_a_snapshot(self):
        self.begin()
        self.host.run(1)
        self.host.accept("in", 1, 5)
        self.host.run(1)
        self.host.snapshot()
        self.assertEqual([self.host.fixed(), self.host.confirmed("in"), self.host.commit()], [2, 1, 2])
        # The event waited, so its RECORD is written all the same; the turns are fixed already.
        self.assertEqual(records(self.disk), [("in", 1, "in", 1, 5)])
        self.host.accept("in", 2, 5)
        self.assertEqual(self.host.confirmed("in"), 1)
        self.crash()
        self.assertEqual([self.host.turns(), self.host.confirmed("in"), self.host.outbox("out")], [2, 1, [(1, 5)]])

    def test_confirmed_on_several_ports(self):
        self.begin(ECHO)
        self.host.accept("in", 1, 5)
        self.host.commit()
        self.host.accept("in", 2, 5)
        self.host.accept("p", 1, 5)
        self.host.change(ECHO)
        self.host.accept("p", 2, 5)
        ports = ("in", "p", "out")
        self.assertEqual([self.host.confirmed(port) for port in ports], [1, 0, 0])
        self.host.snapshot(0)
        self.host.accept("p", 3, 5)
        self.assertEqual([self.host.confirmed(port) for port in ports], [1, 0, 0])
        self.host.snapshot()
        self.assertEqual([self.host.confirmed(port) for port in ports], [2, 2, 0])
        self.assertIs(self.host.snapshot(0), False)
        self.host.accept("in", 3, 5)
        self.assertEqual([self.host.confirmed(port=port) for port in ports], [2, 2, 0])
        self.host.snapshot()
        self.assertEqual([self.host.confirmed(port) for port in ports], [2, 3, 0])
        self.host.commit()
        self.assertEqual([self.host.confirmed(port) for port in ports], [3, 3, 0])

    def test_while_a_snapshot_is_open(self):
        self.begin()
        self.host.accept("in", 1, 5)
        self.host.snapshot(0)
        self.host.accept("in", 2, 6)
        self.host.run(9)
        self.assertEqual([self.host.confirmed("in"), self.host.commit(), self.host.confirmed("in")], [0, 2, 2])
        self.host.accept("in", 3, 7)
        self.assertTrue(self.host.snapshot())
        self.assertEqual([self.host.confirmed("in"), self.host.fixed()], [2, 2])
        self.assertEqual(records(self.disk), [("in", 0, "in", 1, 5), ("in", 0, "in", 2, 6), ("fixed", 2)])
        self.crash()
        self.assertEqual([self.host.confirmed("in"), self.host.turns(), self.host.outbox("out")],
                         [2, 2, [(1, 5), (2, 11)]])

    def test_every_failure(self):
        """A commit of four blocks, with every failure and every subset of the loose writes."""
        for many in range(6):
            for bits in range(16):
                self.begin()
                self.host.run(1)
                feed(self.host, 11, value=1)
                self.disk.fail_after(many)
                failed = many < 5
                if failed:
                    self.assertRaises(Stopped, self.host.commit)
                else:
                    self.host.commit()
                loose = len(self.disk.loose())
                kept = [index for index in range(loose) if bits >> index & 1]
                if bits >> loose:
                    continue
                self.crash(kept)
                whole = 4 if not failed else 0
                while whole in kept:
                    whole += 1
                self.assertEqual([self.host.confirmed("in"), self.host.fixed()], [min(11, 3 * whole), 1 if whole else 0])
                self.host.run(1)
                feed(self.host, 11 - self.host.confirmed("in"), value=1)
                self.host.run(99)
                self.host.commit()
                self.assertEqual([value for _, value in self.host.outbox("out")], list(range(1, 12)))


class TookTest(HostCase):
    def test_released_outputs(self):
        self.begin()
        self.no_output("out", 1)
        feed(self.host, 3)
        self.host.run(9)
        self.no_output("out", 1)
        self.host.took("out", 0)
        self.host.commit()
        self.assertEqual(self.host.outbox("out"), [(1, 3), (2, 6), (3, 9)])
        for number in (4, 5, 100):
            self.no_output("out", number)
        self.no_output("other", 1)
        self.host.took("out", 0)
        self.host.took("other", 0)
        self.assertEqual(len(self.host.outbox("out")), 3)
        self.assertIsNone(self.host.took(port="out", number=2))
        for number in (0, 1, 2):
            self.host.took("out", number)
            self.assertEqual(self.host.outbox("out"), [(3, 9)])
        self.no_output("out", 4)
        self.host.took("out", 3)
        self.assertEqual(self.host.outbox("out"), [])
        self.no_output("out", 4)
        feed(self.host, 1)
        self.host.run(9)
        self.no_output("out", 4)
        self.host.commit()
        self.host.took("out", 1)
        self.assertEqual(self.host.outbox("out"), [(4, 12)])

    def test_outputs_of_the_fixed_turn_itself(self):
        self.begin("func main() send out 1 send out 2 send out 3 send out 4 send out 5 send out 6 send out 7 end")
        self.host.snapshot()
        self.assertEqual(self.host.outbox("out"), [])
        self.host.run(1)
        self.host.accept("in", 1, 5)
        self.host.commit()
        self.host.run(1)
        self.assertEqual([len(self.host.outbox("out")), self.host.fixed(), self.host.turns()], [6, 1, 2])
        self.no_output("out", 7)
        self.host.took("out", 6)
        self.host.commit()
        self.assertEqual(self.host.outbox("out"), [(7, 7)])

    def test_released_by_a_snapshot(self):
        self.begin()
        feed(self.host, 2)
        self.host.run(9)
        self.host.snapshot(0)
        feed(self.host, 1)
        self.host.run(9)
        self.assertEqual(self.host.outbox("out"), [])
        self.host.snapshot()
        self.assertEqual(self.host.outbox("out"), [(1, 3), (2, 6)])
        self.no_output("out", 3)
        self.host.took("out", 2)
        self.host.snapshot()
        self.assertEqual(self.host.outbox("out"), [(3, 9)])

    def test_behind_a_crash(self):
        self.begin()
        feed(self.host, 3)
        self.host.run(9)
        self.host.commit()
        self.host.took("out", 1)
        self.host.snapshot()
        self.host.took("out", 3)
        self.assertEqual(self.host.outbox("out"), [])
        self.crash()
        # What was forgotten before the snapshot stays so; the rest is there again, as it was.
        self.assertEqual(self.host.outbox("out"), [(2, 6), (3, 9)])
        self.host.took("out", 1)
        self.host.took("out", 2)
        self.assertEqual(self.host.outbox("out"), [(3, 9)])


class ChangeTest(HostCase):
    new = "func main() let s = 0 while 1 s = s + receive in send out s + 100 end end"
    labelled = "func main() let s = 0 while 1 here top s = s + receive in send out s end end"
    other = "func main() let s = 0 while 1 here top s = s + receive in send out s + 100 end end"

    def test_errors(self):
        self.begin(self.labelled)
        self.host.run(9)
        before = shown(self.host)
        with self.assertRaises(BadText) as caught:
            self.host.change("func main() let a = end")
        self.assertEqual(caught.exception.at, 20)
        with self.assertRaises(Unsound) as caught:
            self.host.change(text="func main() a = 1 end")
        self.assertEqual(caught.exception.faults, [("main", 0, "unknown")])
        with self.assertRaises(Refused) as caught:
            self.host.change(self.new)
        self.assertEqual((caught.exception.task, caught.exception.depth, caught.exception.word), (0, 0, "no label"))
        self.assertEqual(shown(self.host), before)
        self.host.commit()
        self.assertEqual(records(self.disk), [("fixed", 1)])

    def test_behind_a_crash(self):
        for snapshot in (False, True):
            self.begin(self.labelled)
            feed(self.host, 1, value=1)
            self.host.run(9)
            self.assertIsNone(self.host.change(self.other))
            self.host.change(self.other)
            self.assertEqual(self.host.text(), write(read(self.other)))
            feed(self.host, 1, value=2)
            self.host.run(9)
            if snapshot:
                self.host.snapshot()
            else:
                self.assertEqual(self.host.commit(), 2)
                self.assertEqual(records(self.disk)[1:], [
                    ("change", 1, 1, write(read(self.other))), ("change", 1, 2, write(read(self.other))),
                    ("in", 1, "in", 2, 2), ("fixed", 2)])
            before = shown(self.host)
            self.crash()
            self.assertEqual(shown(self.host), before)
            self.assertEqual(self.host.outbox("out"), [(1, 1), (2, 103)])
            # The changes are numbered from the start on.
            self.host.change(self.labelled)
            self.host.commit()
            self.assertEqual(records(self.disk)[-1], ("change", 2, 3, write(read(self.labelled))))

    def test_one_that_was_not_durable(self):
        self.begin(self.labelled)
        self.host.run(9)
        self.host.change(self.other)
        self.crash()
        self.assertEqual([self.host.text(), self.host.turns()], [write(read(self.labelled)), 0])

    def test_skipped_by_a_recovery(self):
        self.begin(self.labelled)
        self.host.run(9)
        self.host.change(self.other)
        self.host.snapshot()
        self.host.change(self.labelled)
        self.host.commit()
        self.assertEqual([row[2] for row in records(self.disk)], [1, 2])
        self.crash()
        self.assertEqual(self.host.text(), write(read(self.labelled)))
        # The first one was not made again.
        self.host.change(self.other)
        self.host.commit()
        self.assertEqual([row[2] for row in records(self.disk)], [1, 2, 3])


class SnapshotTest(HostCase):
    def test_finished_in_the_call_that_began_it(self):
        self.begin()
        self.assertIs(self.host.snapshot(0), True)
        self.assertEqual(self.disk.done[1], (0, (*root(self.disk.image())[:5], 0, 0, 1, 0)))
        self.assertEqual(len(self.disk.done), 3)
        self.host.run(1)
        self.assertIs(self.host.snapshot(many=100), True)
        self.assertIs(self.host.snapshot(many=None), True)
        self.assertEqual(root(self.disk.image())[1], 4)

    def test_page_by_page(self):
        self.begin(MAKER)
        feed(self.host, 4)
        self.host.run(9)
        before = copy.deepcopy(self.disk), self.host.picture()
        self.assertIs(self.host.snapshot(0), False)
        self.assertEqual(self.disk.done, [])
        count = 0
        while not self.host.snapshot(1):
            count += 1
            self.assertEqual(len(self.disk.done), count)
        # All pages but the last one were written by then; index blocks name them.
        store = Store(self.disk, 18, 300)
        older = Store(before[0], 18, 300)
        pages = [number for number in range(store.many()) if store.page(number) not in ((), older.page(number))]
        self.assertEqual(count, len(pages) - 1)
        self.assertGreater(count, 3)
        self.assertEqual([self.host.fixed(), self.host.confirmed("in"), audit(self.disk)], [self.host.turns(), 4, []])

    def test_again_and_again_with_everything_between(self):
        self.begin(MAKER, 800)
        finished = 0
        for number in range(60):
            feed(self.host, 1, value=number)
            self.host.run(1)
            turns = self.host.turns()
            if number % 3 == 0:
                self.host.commit()
            self.host.collect(number % 5)
            if self.host.snapshot(2):
                finished += 1
                self.assertEqual(audit(self.disk), [])
                other = recover(disk_of(self.disk.image()))
                self.assertGreaterEqual(other.turns(), self.host.fixed())
            self.assertEqual(self.host.turns(), turns)
            if number % 7 == 0 and self.host.outbox("out"):
                self.host.took("out", self.host.outbox("out")[-1][0])
        self.assertGreater(finished, 3)

    def test_facts(self):
        self.begin()
        feed(self.host, 4)
        self.host.run(1)
        self.host.commit()
        feed(self.host, 1)
        self.host.run(1)
        self.host.snapshot(0)
        feed(self.host, 1)
        self.host.run(1)
        self.host.commit()
        self.host.snapshot()
        # The log goes on behind two blocks and five RECORDs.
        self.assertEqual(Store(self.disk, 18, 300).facts(), (2, 5, 1, 2))
        self.assertEqual(records(self.disk), [("in", 1, "in", 5, 3), ("in", 2, "in", 6, 3), ("fixed", 3)])
        self.crash()
        self.assertEqual([self.host.turns(), self.host.confirmed("in"), self.host.snapshot()], [3, 6, True])
        self.assertEqual(Store(self.disk, 18, 300).facts(), (3, 8, 2, 3))

    def test_full(self):
        least = 19
        while True:
            try:
                start(Disk(least), MAKER)
                break
            except Full:
                least += 1
        self.begin(MAKER, least + 12)
        count = self.disk.size() - 18
        saved = 0
        while True:
            feed(self.host, 1)
            self.host.run(9)
            done = len(self.disk.done)
            try:
                self.assertTrue(self.host.snapshot())
                saved = self.host.turns()
            except Full as full:
                self.assertEqual(full.count, count)
                break
        self.assertEqual([self.host.fixed(), audit(self.disk)], [saved, []])
        self.assertGreater(len(self.disk.done), done)
        # It was given up: the next call begins another one.
        self.assertIs(self.host.snapshot(0), False)
        with self.assertRaises(Full):
            while not self.host.snapshot(1):
                pass
        before = shown(self.host)
        self.assertEqual(self.host.commit(), self.host.turns())
        self.crash()
        self.assertEqual(shown(self.host)[3], before[3])

    def test_smaller_behind_a_full_one(self):
        self.begin(DROPPER, 70)
        feed(self.host, 40)
        self.host.run(99)
        self.full_snapshot()
        self.host.commit()
        self.host.took("out", 40)
        self.host.collect()
        self.assertTrue(self.host.snapshot())
        self.crash()
        self.assertEqual([self.host.outbox("out"), self.host.records(), self.host.turns(), audit(self.disk)],
                         [[], 0, self.host.fixed(), []])

    def full_snapshot(self):
        with self.assertRaises(Full) as caught:
            self.host.snapshot()
        self.assertEqual(caught.exception.count, 52)

    def test_beside_a_collection(self):
        self.begin(DROPPER)
        feed(self.host, 6)
        self.host.run(9)
        self.assertEqual(self.host.records(), 6)
        steps = 0
        while not self.host.collect(1):
            self.host.snapshot()
            steps += 1
            self.assertEqual(audit(self.disk), [])
            other = recover(disk_of(self.disk.image()))
            self.assertEqual([other.picture(), other.records()], [self.host.picture(), self.host.records()])
            # The collection of the state is given up.
            self.assertEqual([other.collect(0), other.collect(), other.records()], [False, True, 0])
        self.assertGreater(steps, 10)


class RecoverTest(HostCase):
    def test_twice_at_once(self):
        self.begin()
        feed(self.host, 3)
        self.host.run(9)
        self.host.commit()
        feed(self.host, 1)
        self.host.run(9)
        self.disk.crash([])
        first, second = recover(self.disk), recover(disk=self.disk)
        self.assertEqual(shown(first), shown(second))
        self.assertEqual([first.confirmed("in"), first.turns(), first.fixed()], [3, 2, 2])

    def test_writes_nothing(self):
        self.begin()
        feed(self.host, 30)
        self.host.run(3)
        self.host.commit()
        self.host.snapshot(0)
        self.host.run(3)
        self.host.snapshot(1)
        self.disk.crash([])
        self.disk.done = []
        image = self.disk.image()
        self.disk.fail_after(0)
        for _ in range(2):
            host = recover(self.disk)
            shown(host)
            self.assertEqual([self.disk.done, self.disk.image()], [[], image])

    def test_what_was_under_way_is_given_up(self):
        self.begin(DROPPER)
        feed(self.host, 8)
        self.host.run(99)
        self.host.commit()
        self.assertIs(self.host.collect(3), False)
        self.host.run(1)
        self.assertIs(self.host.snapshot(1), False)
        self.crash([0])
        self.assertEqual([self.host.snapshot(0), self.host.collect(0)], [False, False])
        self.assertTrue(self.host.snapshot())
        self.assertEqual([audit(self.disk), self.host.confirmed("in")], [[], 8])

    def test_the_number_of_turns(self):
        self.begin()
        for count in range(5):
            feed(self.host, 1)
            self.host.run(count)
            if count == 3:
                self.host.commit()
        turns = self.host.fixed()
        self.assertLess(turns, self.host.turns())
        self.crash()
        self.assertEqual([self.host.turns(), self.host.fixed(), self.host.confirmed("in")], [turns, turns, 4])

    def test_a_crash_without_a_failure(self):
        self.begin()
        feed(self.host, 3)
        self.host.run(2)
        self.crash()
        self.assertEqual([self.host.turns(), self.host.confirmed("in"), self.host.fixed()], [0, 0, 0])
        self.assertIs(self.host.accept("in", 1, 9), True)

    def test_again_and_again(self):
        self.begin()
        total = 0
        for number in range(1, 40):
            self.host.accept("in", number, number)
            self.host.run(9)
            self.host.commit()
            total += number
            if number % 4 == 0:
                self.host.snapshot()
            self.crash()
            self.assertEqual(self.host.outbox("out")[-1], (number, total))
        # Each log has an epoch of its own.
        self.assertEqual(max(self.disk.read(place)[2] for place in range(2, 18)), 39)


class TextTest(HostCase):
    def test_queries(self):
        self.begin("func main() while 1 send out(receive in)end end")
        self.assertEqual(self.host.text(), "func main()\n  while 1\n    send out receive in\n  end\nend")
        self.assertEqual([self.host.able(), self.host.records(), self.host.turns(), self.host.fixed()], [[0], 0, 0, 0])
        self.assertEqual([self.host.run(many=0), self.host.run(5), self.host.run(5), self.host.able()], [0, 1, 0, []])
        found = self.host.able()
        found.append(1)
        self.assertEqual([self.host.able(), self.host.outbox("out"), self.host.outbox(port="no")], [[], [], []])
        self.assertEqual([self.host.collect(many=0), self.host.collect(None)], [False, True])


if __name__ == "__main__":
    unittest.main()
