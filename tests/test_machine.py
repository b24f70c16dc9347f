import random
import unittest

from machines import Remade, copied, look_at_heap, pages
from programs import SoundMaker
from trees import as_lists

from lastingrun.check import faults
from lastingrun.collect import reachable
from lastingrun.errors import Refused, Unsound
from lastingrun.heap import Heap
from lastingrun.machine import Machine
from lastingrun.memory import Memory
from lastingrun.plain import Run
from lastingrun.text import read, write

PORTS = ("in", "p", "out", "faults")

ADDER = "func main() let total = 0 while 1 let n = receive in total = total + n send out total end end"
MAKER = "func main() let i = 0 while i < 4 let r = new(a: i) i = i + 1 end let n = receive in end"


def machine_of(text):
    return Machine(Memory(), read(text))


def seen(run):
    """All that the queries of a run or a machine return."""
    ports = [(run.given(port), run.sent(port), run.outputs(port)) for port in PORTS]
    return (run.turns(), run.able(), run.program(), run.changes(), run.picture(), ports)


class ExampleTest(unittest.TestCase):
    def test_document(self):
        machine = machine_of(MAKER)
        self.assertEqual([machine.turn(), machine.turn(), machine.turn(), machine.records(), machine.collect(),
                          machine.records()], [True, True, True, 4, True, 0])

    def test_the_examples_of_the_plain_run(self):
        machine = machine_of(ADDER)
        self.assertEqual([machine.turn(), machine.turn(), machine.give("in", 5), machine.give("in", 2), machine.turn(),
                          machine.outputs("out"), machine.turns()],
                         [True, False, None, None, True, [(1, 5, 1), (2, 7, 1)], 2])
        self.assertEqual([machine.turn(), machine.able()], [True, []])
        self.assertEqual([machine.given("in"), machine.sent("out"), machine.forget("out", 1), machine.outputs("out"),
                          machine.changes()], [2, 2, None, [(2, 7, 1)], 0])
        machine = machine_of(ADDER)
        self.assertEqual([machine.turn(), machine.give("in", 4), machine.picture()],
                         [True, None, (0, 1, ((0, (("main", 2, 0, (), (("total", 0),)),)),), (("in", (4,)),), ())])


class BeginTest(unittest.TestCase):
    def test_unsound(self):
        memory = Memory()
        for text, wanted in (("func main() a = 1 end", [("main", 0, "unknown")]), ("", [("", -1, "main")])):
            with self.assertRaises(Unsound) as caught:
                Machine(memory, read(text))
            self.assertEqual(caught.exception.faults, wanted)
            self.assertEqual([memory.many(), memory.changed()], [0, []])
        Machine(memory, read(ADDER))
        self.assertGreater(memory.many(), 0)

    def test_the_program_is_copied(self):
        tree = as_lists(read(ADDER))
        machine = Machine(memory=Memory(), program=tree)
        tree[0][0] = "other"
        tree.append(1)
        self.assertEqual(machine.program(), read(ADDER))
        changed = as_lists(read(ADDER))
        machine.change(program=changed)
        changed[0][0] = "other"
        self.assertEqual([machine.program(), machine.changes()], [read(ADDER), 1])

    def test_the_memory(self):
        memory = Memory()
        machine = Machine(memory, read(ADDER))
        self.assertIs(machine.memory(), memory)
        self.assertEqual(Heap(memory).refs()[0], "@0")
        self.assertEqual(Machine(memory).picture(), Run(read(ADDER)).picture())

    def test_before_the_first_turn(self):
        machine = machine_of(ADDER)
        self.assertEqual(seen(machine), seen(Run(read(ADDER))))
        self.assertEqual([machine.records(), machine.able(), machine.turns()], [0, [0], 0])

    def test_results_are_new(self):
        machine = machine_of(ADDER)
        machine.give("in", 4)
        machine.turn()
        for query in (lambda: machine.outputs("out"), machine.able, lambda: machine.outputs("no")):
            found = query()
            found.append(9)
            self.assertNotEqual(found, query())


class CellTest(unittest.TestCase):
    def test_queries_change_no_cell(self):
        machine = machine_of(ADDER)
        machine.give("in", 3)
        machine.turn()
        memory = copied(machine.memory())
        before = pages(memory)
        again = Machine(memory)
        for _ in range(2):
            seen(again)
            again.given("other")
            again.sent("other")
            again.outputs("other")
            again.records()
            again.memory()
            self.assertEqual([pages(memory), memory.changed(), Machine(memory).turns()], [before, [], 1])

    def test_nothing_to_do_changes_no_cell(self):
        machine = machine_of(ADDER)
        machine.turn()
        memory = copied(machine.memory())
        machine = Machine(memory)
        self.assertIs(machine.turn(), False)
        machine.forget("out", 5)
        machine.forget("other", 5)
        self.assertTrue(machine.collect())
        self.assertEqual(memory.changed(), [])

    def test_a_refused_change_changes_no_cell(self):
        machine = machine_of("func main() while 1 send out receive in end end")
        machine.turn()
        memory = copied(machine.memory())
        machine = Machine(memory)
        with self.assertRaises(Refused) as caught:
            machine.change(read("func main() end"))
        self.assertEqual((caught.exception.task, caught.exception.depth, caught.exception.word), (0, 0, "unlabelled"))
        with self.assertRaises(Unsound) as caught:
            machine.change(read("func main() a = 1 end"))
        self.assertEqual(caught.exception.faults, [("main", 0, "unknown")])
        self.assertEqual([memory.changed(), machine.changes()], [[], 0])

    def test_all_is_reachable_from_the_first_object(self):
        """A memory with nothing but what is reachable from cell 0 holds the same machine."""
        rand = random.Random(5)
        for seed in range(25):
            maker = SoundMaker(random.Random(seed))
            machine = Machine(Memory(), maker.program())
            for _ in range(12):
                machine.give(rand.choice(PORTS[:3]), rand.randint(-5, 5))
                machine.turn()
            memory = copied(machine.memory())
            heap = Heap(memory)
            kept = reachable(heap, ["@0"])
            for ref in heap.refs():
                if ref not in kept:
                    heap.free(ref)
            again = Machine(memory)
            self.assertEqual(seen(again), seen(machine))
            # What is left are the records of the picture and what is no record.
            self.assertEqual(again.records(), len(machine.picture()[4]))
            look_at_heap(machine.memory())
            for _ in range(5):
                self.assertEqual(again.turn(), machine.turn())
                self.assertEqual(seen(again), seen(machine))

    def test_two_machines_take_turns(self):
        memory = Memory()
        first = Machine(memory, read(ADDER))
        second = Machine(memory)
        plain = Run(read(ADDER))
        for number in range(8):
            for machine in (first, second):
                machine.give("in", number)
                plain.give("in", number)
                self.assertEqual(machine.turn(), plain.turn())
                self.assertEqual([seen(first), seen(second)], [seen(plain)] * 2)
        new = read("func main() let total = 0 while 1 here top let n = receive in send out total end end")
        self.assertRaises(Refused, first.change, new)
        same = (*read(ADDER), ("f", (), ()))
        first.change(same)
        plain.change(same)
        self.assertEqual([seen(second), second.program()], [seen(plain), same])

    def test_freeze_and_settle_around_turns(self):
        machine = machine_of(ADDER)
        memory = machine.memory()
        plain = Run(read(ADDER))
        for number in range(10):
            kept = pages(memory)
            memory.freeze()
            wanted = seen(plain)
            for run in (machine, plain):
                run.give("in", number)
                run.turn()
            self.assertEqual(seen(machine), seen(plain))
            frozen = [memory.frozen(at) for at in range(memory.frozen_many())]
            self.assertEqual(frozen, kept)
            self.assertEqual(seen(Machine(Memory(frozen))), wanted)
            if number % 2:
                memory.settle()
            else:
                memory.thaw()
            self.assertEqual(seen(machine), seen(plain))


class QueueTest(unittest.TestCase):
    """Many values on many ports, so that their parts are made and dropped."""

    def test_queues_and_outputs(self):
        text = ("func main() spawn f() while 1 send out receive in end end"
                " func f() while 1 let a = receive p send in a send out a + receive p end end")
        for seed in range(12):
            rand = random.Random(seed)
            plain = Run(read(text))
            machine = Remade(read(text))
            for _ in range(50):
                port, many = rand.choice(("in", "p", "other")), rand.choice((0, 1, 2, 7, 8, 9))
                for _ in range(many):
                    value = rand.choice((0, -1, 5, 10 ** 12, -10 ** 12))
                    plain.give(port, value)
                    machine.give(port, value)
                for _ in range(rand.randint(0, 5)):
                    self.assertEqual(machine.turn(), plain.turn())
                port, number = rand.choice(("out", "in", "none", "faults")), rand.randint(-2, 60)
                plain.forget(port, number)
                machine.forget(port, number)
                self.assertEqual(seen(machine), seen(plain), seed)

    def test_what_is_used_up_is_freed(self):
        machine = machine_of("func main() while 1 send out receive in end end")
        machine.give("in", 1)
        machine.turn()
        machine.forget("out", 1)
        many = len(Heap(machine.memory()).refs())
        for number in range(60):
            machine.give("in", number)
            machine.turn()
            machine.forget("out", 99)
        self.assertEqual(len(Heap(machine.memory()).refs()), many)
        self.assertEqual([machine.given("in"), machine.sent("out"), machine.outputs("out")], [61, 61, []])

    def test_what_is_done_while_a_collection_is_under_way_leaves_nothing_behind(self):
        machine = machine_of("func main() while 1 spawn f(receive in) end end func f(a) send out a end")
        machine.turn()
        for number in range(30):
            machine.give("in", number)
            machine.turn()
            machine.turn()
            machine.collect(1)
            machine.forget("out", number)
            self.assertFalse([ref for ref in Heap(machine.memory()).refs()
                              if ref not in reachable(Heap(machine.memory()), ["@0"])])


class CollectTest(unittest.TestCase):
    def test_what_is_held_by_dead_variables_goes(self):
        machine = machine_of("func main() let a = new(x: 1) let b = new(x: 2) send out a.x let n = receive in"
                             " send out b.x + receive in end")
        machine.turn()
        self.assertEqual([machine.records(), machine.collect(), machine.records()], [2, True, 1])
        machine.give("in", 1)
        machine.turn()
        self.assertEqual([machine.records(), machine.collect(), machine.records()], [1, True, 0])
        machine.give("in", 1)
        self.assertEqual([machine.turn(), machine.outputs("out")], [True, [(1, 1, 0), (2, 3, 2)]])

    def test_held_values(self):
        """Records that only stand among the held values of frames stay."""
        machine = machine_of("func main() send out f(new(a: 7), receive in) let x = f(new(a: 1), g(receive in))"
                             " send out x end func f(r, n) return r.a + n end func g(n) return n + receive in end")
        machine.turn()
        self.assertEqual([machine.records(), machine.collect(), machine.records()], [1, True, 1])
        machine.give("in", 3)
        machine.turn()
        self.assertEqual([machine.records(), machine.collect(), machine.records()], [2, True, 1])
        machine.give("in", 4)
        machine.turn()
        machine.collect()
        machine.give("in", 5)
        machine.turn()
        machine.turn()
        self.assertEqual([machine.outputs("out"), machine.outputs("faults")], [[(1, 10, 1), (2, 10, 3)], []])
        self.assertEqual([machine.collect(), machine.records()], [True, 0])

    def test_rings_that_are_dropped(self):
        text = ("func main() let i = 0 while i < 3 let a = new(n: none, i: i) let b = new(n: a)"
                " a.n = b i = i + 1 end let x = receive in end")
        machine = machine_of(text)
        while machine.turn():
            pass
        self.assertEqual([machine.records(), machine.collect(), machine.records()], [6, True, 0])

    def test_a_thrown_record(self):
        machine = machine_of("func main() try f() catch e let n = receive in send out e.a + n end let m = receive in"
                             " end func f() let s = new(a: 9) throw new(a: 5, b: s) end")
        machine.turn()
        self.assertEqual([machine.records(), machine.collect(), machine.records()], [2, True, 2])
        self.assertEqual(machine.picture()[4], ((("a", 5), ("b", ("record", 1))), (("a", 9),)))
        machine.give("in", 1)
        machine.turn()
        self.assertEqual([machine.outputs("out"), machine.collect(), machine.records()], [[(1, 6, 1)], True, 0])

    def test_changes_let_records_go(self):
        machine = machine_of("func main() let a = new(x: 1) while 1 here top let n = receive in send out a.x end end")
        machine.turn()
        self.assertEqual([machine.collect(), machine.records()], [True, 1])
        machine.change(read("func main() while 1 here top let n = receive in send out n end end"))
        self.assertEqual([machine.records(), machine.collect(), machine.records()], [1, True, 0])

    def test_an_ended_task_lets_its_records_go(self):
        machine = machine_of("func main() spawn f(new(a: 1)) spawn f(new(a: 2)) end"
                             " func f(r) send out receive in send out r.a end")
        while machine.turn():
            pass
        self.assertEqual([machine.collect(), machine.records(), machine.able()], [True, 2, []])
        machine.give("in", 7)
        self.assertEqual([machine.turn(), machine.collect(), machine.records()], [True, True, 1])
        machine.give("in", 8)
        self.assertEqual([machine.turn(), machine.collect(), machine.records()], [True, True, 0])
        self.assertEqual(machine.picture(), (2, 3, (), (), ()))

    def test_steps(self):
        machine = machine_of(MAKER)
        while machine.turn():
            pass
        self.assertEqual([machine.collect(0), machine.records()], [False, 4])
        counts = []
        while not machine.collect(1):
            counts.append(machine.records())
        self.assertEqual(machine.records(), 0)
        self.assertEqual(counts, sorted(counts, reverse=True))
        self.assertIs(machine.collect(many=10 ** 6), True)
        self.assertIs(machine.collect(many=None), True)

    def test_a_whole_one_behind_one_under_way(self):
        machine = machine_of("func main() let a = new(x: 1) let n = receive in send out a.x let m = receive in end")
        machine.turn()
        self.assertIs(machine.collect(1), False)
        machine.give("in", 1)
        machine.turn()
        # The record was reachable at the beginning of the one under way, not at that of the whole one.
        self.assertEqual([machine.records(), machine.collect(), machine.records()], [1, True, 0])

    def test_one_that_is_under_way_keeps_what_was_reachable(self):
        machine = machine_of("func main() let a = new(x: 1) let n = receive in send out a.x let m = receive in end")
        machine.turn()
        self.assertIs(machine.collect(1), False)
        machine.give("in", 1)
        machine.turn()
        while not machine.collect(1):
            pass
        self.assertEqual(machine.records(), 1)
        while not machine.collect(1):
            pass
        self.assertEqual(machine.records(), 0)

    def test_a_collection_is_forgotten_by_a_new_machine(self):
        machine = machine_of(MAKER)
        while machine.turn():
            pass
        self.assertIs(machine.collect(8), False)
        again = Machine(machine.memory())
        self.assertEqual(again.picture(), machine.picture())
        self.assertEqual([again.collect(0), again.collect(), again.records()], [False, True, 0])


class RandomTest(unittest.TestCase):
    """Programs made at random run in a machine and in a plain run, with a collection step by step."""

    def test_beside_a_plain_run(self):
        self.collections = self.freed = self.changed = 0
        for seed in range(120):
            self.seed = seed
            self.look(random.Random(seed))
        self.assertGreater(self.collections, 200)
        self.assertGreater(self.freed, 200)
        self.assertGreater(self.changed, 50)

    def look(self, rand):
        maker = SoundMaker(rand)
        program = maker.program()
        plain = Run(program)
        machine = Machine(Memory(), program)
        wanted = None
        for _ in range(25):
            for _ in range(rand.randint(0, 4)):
                port, value = rand.choice(PORTS[:3]), rand.choice((0, 1, 2, -3, 10 ** 12, -10 ** 12))
                plain.give(port, value)
                machine.give(port, value)
            before = machine.records()
            self.assertEqual(machine.turn(), plain.turn(), self.seed)
            if wanted is not None:
                wanted += machine.records() - before
            if rand.random() < 0.2:
                port, number = rand.choice(PORTS), rand.randint(-1, 9)
                plain.forget(port, number)
                machine.forget(port, number)
            if rand.random() < 0.2:
                self.change(maker, plain, machine)
            self.assertEqual(seen(machine), seen(plain), self.seed)
            wanted = self.collect(rand, machine, wanted)
            self.assertEqual(seen(machine), seen(plain), self.seed)
            self.assertEqual(seen(Machine(copied(machine.memory()))), seen(plain), self.seed)
        machine.collect()
        look_at_heap(machine.memory())
        self.assertEqual(machine.records(), len(plain.picture()[4]), self.seed)
        self.assertEqual(seen(machine), seen(plain), self.seed)

    def collect(self, rand, machine, wanted):
        """Goes on with a collection; wanted is how many records there are at its end: those that were
        reachable at its beginning, and those made since."""
        if wanted is None and rand.random() < 0.5:
            return None
        if wanted is None:
            wanted = len(machine.picture()[4])
            self.freed += machine.records() - wanted
        if not machine.collect(rand.choice((0, 1, 3, 10))):
            return wanted
        self.collections += 1
        self.assertEqual(machine.records(), wanted, self.seed)
        return None

    def change(self, maker, plain, machine):
        program = tuple(maker.edited(function) for function in plain.program())
        if faults(program):
            return
        found = []
        for run in (plain, machine):
            try:
                run.change(program)
                found.append("changed")
                self.changed += 1
            except Refused as error:
                found.append((error.task, error.depth, error.word))
        self.assertEqual(found[0], found[1], self.seed)


class TextTest(unittest.TestCase):
    def test_a_long_program(self):
        text = "func main() let a = 0 while 1 a = " + " + ".join(["receive in"] * 300) + " send out a end end"
        machine = machine_of(text)
        machine.turn()
        for _ in range(300):
            machine.give("in", 2)
        Machine(machine.memory()).turn()
        self.assertEqual([Machine(machine.memory()).outputs("out"), write(machine.program())],
                         [[(1, 600, 1)], write(read(text))])

    def test_no_functions_but_main(self):
        machine = machine_of("func main() end")
        self.assertEqual([machine.picture(), machine.turn(), machine.turn(), machine.picture()],
                         [(None, 1, ((0, (("main", 0, None, (), ()),)),), (), ()), True, False, (0, 1, (), (), ())])


if __name__ == "__main__":
    unittest.main()
