import random
import unittest

from lastingrun.collect import Collector, reachable
from lastingrun.errors import Busy
from lastingrun.heap import Heap
from lastingrun.memory import Memory


class CollectCase(unittest.TestCase):
    def setUp(self):
        self.memory = Memory()
        self.heap = Heap(self.memory)
        self.collector = Collector(self.heap)

    def rows(self, *rows):
        """Makes objects, each with these ATOMs; returns their REFs."""
        return [self.heap.make("row", row) for row in rows]

    def count_steps(self):
        """How many single steps there are up to the end of the collection under way."""
        many = 1
        while not self.collector.step():
            many += 1
            self.assertLess(many, 1000)
        return many


class ExampleTest(CollectCase):
    def test_document(self):
        heap = self.heap
        a, b, c = heap.make("row", (None,)), heap.make("row", (None,)), heap.make("row", (None,))
        collector = self.collector
        self.assertEqual([heap.put(a, 0, b), collector.begin([a]), collector.step(9), heap.refs()],
                         [None, None, True, ["@0", "@3"]])
        self.assertEqual([reachable(heap, [b]), collector.busy()], [["@3"], False])
        self.assertEqual(c, "@6")


class ReachableTest(CollectCase):
    def test_by_ascending_cells(self):
        a, b, c, d = self.rows((None,), (None,), (None, None), (None,))
        self.heap.put(d, 0, c)
        self.heap.put(c, 1, a)
        self.assertEqual(reachable(self.heap, [d]), [a, c, d])
        self.assertEqual(reachable(self.heap, [b, d]), [a, b, c, d])
        self.assertEqual(reachable(self.heap, (c, b)), [a, b, c])

    def test_cells_are_not_compared_as_strings(self):
        refs = self.rows(*[()] * 60)
        self.assertEqual(reachable(self.heap, list(reversed(refs))), refs)

    def test_no_roots_and_the_same_twice(self):
        a, _ = self.rows((), ())
        self.assertEqual(reachable(self.heap, []), [])
        self.assertEqual(reachable(self.heap, [a, a]), [a])
        self.assertEqual(reachable(Heap(Memory()), []), [])

    def test_rings(self):
        a, b, c, d = self.rows((None, None), (None,), (None,), (None,))
        self.heap.put(a, 0, a)
        self.heap.put(a, 1, b)
        self.heap.put(b, 0, c)
        self.heap.put(c, 0, a)
        self.heap.put(d, 0, d)
        self.assertEqual(reachable(self.heap, [b]), [a, b, c])
        self.assertEqual(reachable(self.heap, [d]), [d])

    def test_atoms_that_are_no_refs(self):
        a, b = self.rows((None, 5, "@", "@x", "@01", "@1", "@99", "row", " @3", "3", 14), ())
        self.assertEqual(b, "@13")
        self.heap.put(a, 10, "@013")
        self.assertEqual(reachable(self.heap, [a]), [a])
        self.heap.put(a, 10, "@13")
        self.assertEqual(reachable(self.heap, [a]), [a, b])

    def test_arguments_stay_and_the_list_is_new(self):
        a, _ = self.rows((), ())
        roots = [a]
        found = reachable(heap=self.heap, roots=roots)
        found.append("x")
        self.assertEqual([roots, reachable(self.heap, roots)], [[a], [a]])
        pages = [self.memory.page(number) for number in range(3)]
        reachable(self.heap, roots)
        self.assertEqual([self.memory.page(number) for number in range(3)], pages)


class StepTest(CollectCase):
    def test_how_many_steps(self):
        a, b, c, d, e = self.rows((None, None, None), (None,), (None,), (None,), (None,))
        for place, ref in enumerate((b, b, a)):
            self.heap.put(a, place, ref)
        self.heap.put(b, 0, a)
        self.heap.put(c, 0, d)
        self.heap.put(d, 0, c)
        self.collector.begin([a, a, b])
        # a and b are looked at once each, then all five.
        self.assertEqual(self.count_steps(), 7)
        self.assertEqual([self.heap.refs(), e], [[a, b], "@14"])

    def test_what_each_step_frees(self):
        a, b, c, d = self.rows((None,), (None,), ("@0",), (None,))
        self.heap.put(b, 0, c)
        self.collector.begin([b])
        seen = []
        while self.collector.busy():
            ended = self.collector.step(1)
            seen.append((ended, tuple(self.heap.refs())))
        everything = (a, b, c, d)
        # b, c and a are marked and looked at; then a, b, c and d are looked at.
        self.assertEqual(seen, [(False, everything)] * 6 + [(True, (a, b, c))])
        # Nothing is reachable from what is no object any more.
        self.collector.begin([d])
        self.assertEqual([self.collector.step(), self.heap.refs()], [False, [b, c]])
        self.assertEqual([self.collector.step(1), self.heap.refs()], [False, [c]])
        self.assertEqual([self.collector.step(1), self.heap.refs()], [True, []])

    def test_one_root_and_what_is_freed_in_order(self):
        a, b, c, d = self.rows((), (), (), ())
        self.collector.begin([c])
        self.assertEqual([self.collector.step(2), self.heap.refs()], [False, [b, c, d]])
        self.assertEqual([self.collector.step(1), self.heap.refs()], [False, [c, d]])
        self.assertEqual([self.collector.step(1), self.heap.refs()], [False, [c, d]])
        self.assertEqual([self.collector.step(1), self.heap.refs()], [True, [c]])
        self.assertEqual(a, "@0")

    def test_many_at_once(self):
        a, b, c = self.rows((), (), ())
        self.collector.begin([a])
        self.assertEqual([self.collector.step(3), self.collector.busy(), self.heap.refs()], [False, True, [a, c]])
        self.assertEqual([self.collector.step(1), self.collector.busy(), self.heap.refs()], [True, False, [a]])
        self.collector.begin([])
        self.assertEqual([self.collector.step(many=100), self.collector.step(100), b], [True, False, "@2"])

    def test_step_of_none(self):
        self.rows(())
        self.assertEqual([self.collector.step(0), self.collector.step(), self.collector.busy()], [False, False, False])
        self.collector.begin([])
        self.assertEqual([self.collector.step(0), self.collector.busy(), self.heap.refs()], [False, True, ["@0"]])
        self.assertEqual([self.collector.step(1), self.heap.refs()], [True, []])

    def test_no_objects(self):
        self.collector.begin([])
        self.assertEqual([self.collector.busy(), self.collector.step(0), self.collector.busy()], [True, False, True])
        self.assertEqual([self.collector.step(), self.collector.busy()], [True, False])
        self.collector.begin(())
        self.assertIs(self.collector.step(5), True)

    def test_no_roots(self):
        self.rows((None,), ("@0",), ("@3",))
        self.collector.begin([])
        self.assertEqual(self.count_steps(), 3)
        self.assertEqual([self.heap.refs(), self.memory.many()], [[], 0])

    def test_begin_twice(self):
        a, b = self.rows((), ())
        self.collector.begin([a])
        for _ in range(2):
            self.assertRaises(Busy, self.collector.begin, [b])
            self.assertEqual([self.collector.step(), self.collector.busy()], [False, True])
        self.assertRaises(Busy, self.collector.begin, [])
        self.assertEqual([self.collector.step(), self.heap.refs()], [True, [a]])
        self.collector.begin([a])

    def test_two_collections(self):
        a, b, c = self.rows((None,), (None,), (None,))
        self.heap.put(a, 0, b)
        self.collector.begin([a])
        self.collector.step(99)
        self.assertEqual(self.heap.refs(), [a, b])
        self.heap.put(a, 0, None)
        d = self.heap.make("row", (None,))
        self.assertEqual(d, c)
        self.collector.begin(roots=[a])
        self.assertTrue(self.collector.step(99))
        self.assertEqual(self.heap.refs(), [a])

    def test_roots_are_copied(self):
        a, b = self.rows((), ())
        roots = [a]
        self.collector.begin(roots)
        roots[0] = b
        self.collector.step(99)
        self.assertEqual([self.heap.refs(), roots], [[a], [b]])

    def test_atoms_that_are_no_refs(self):
        a, b = self.rows(("@5", "@", "@00", 9), ())
        c = self.heap.make("row", ())
        self.assertEqual([b, c], ["@6", "@8"])
        self.heap.put(a, 3, "@08")
        self.collector.begin([a])
        self.assertEqual(self.count_steps(), 1 + 3)
        self.assertEqual(self.heap.refs(), [a])


class ChangeTest(CollectCase):
    """The heap changes while a collection is under way."""

    def test_a_ref_is_taken_out_before_its_object_is_looked_at(self):
        a, b, c = self.rows((None,), (None,), ("x",))
        self.heap.put(a, 0, b)
        self.heap.put(b, 0, c)
        self.collector.begin([a])
        self.heap.put(a, 0, None)
        while not self.collector.step():
            pass
        self.assertEqual(self.heap.refs(), [a, b, c])
        # It was unreachable at the beginning of the next one.
        self.collector.begin([a])
        self.collector.step(99)
        self.assertEqual(self.heap.refs(), [a])

    def test_a_ref_moves_behind_the_collector(self):
        for steps in range(9):
            self.setUp()
            a, b, c, d = self.rows((None,), (None, None), ("c",), ("d",))
            self.heap.put(a, 0, b)
            self.heap.put(b, 0, c)
            self.collector.begin([a])
            self.collector.step(steps)
            # From b, maybe not looked at yet, into a, maybe looked at already, and into a new object.
            new = self.heap.make("row", (c, None))
            self.heap.put(b, 0, None)
            self.heap.put(a, 0, new)
            self.heap.put(new, 1, b)
            while self.collector.busy():
                self.collector.step()
            self.assertEqual(self.heap.refs()[:3], [a, b, c])
            self.assertEqual([self.heap.atoms(c), self.heap.atoms(new), self.heap.get(a, 0)],
                             [("c",), (c, b), new])
            # The new object may have the place of d.
            self.assertEqual((len(self.heap.refs()), d in self.heap.refs()), (4, new == d))

    def test_objects_made_since_stay(self):
        a, b = self.rows((None,), (None,))
        self.collector.begin([a])
        new = self.heap.make("new", ())
        self.assertFalse(self.collector.step(2))
        newer = self.heap.make("newer", ())
        while self.collector.busy():
            self.collector.step()
        self.assertEqual(self.heap.refs(), [a, new, newer] if newer != b else [a, newer, new])
        self.collector.begin([a])
        self.collector.step(99)
        self.assertEqual(self.heap.refs(), [a])

    def test_objects_in_the_places_of_freed_ones(self):
        refs = self.rows(*[(number,) for number in range(6)])
        self.collector.begin([refs[4]])
        # One is looked at, then the first three are freed.
        self.assertFalse(self.collector.step(4))
        self.assertEqual(self.heap.refs(), refs[3:])
        new = [self.heap.make("new", (refs[4],)) for _ in range(3)]
        self.assertEqual(new, refs[:3])
        self.heap.put(new[0], 0, new[1])
        self.heap.put(new[1], 0, None)
        while self.collector.busy():
            self.collector.step()
        self.assertEqual([self.heap.refs(), self.heap.kind(refs[0])], [new + [refs[4]], "new"])

    def test_makes_by_another_heap_before(self):
        a = self.rows((None,))[0]
        other = Heap(self.memory)
        b, c = other.make("row", (None,)), other.make("row", (None,))
        other.put(a, 0, c)
        self.collector.begin([a])
        self.assertEqual(self.count_steps(), 2 + 3)
        self.assertEqual([self.heap.refs(), other.refs(), b], [[a, c], [a, c], "@3"])

    def test_random(self):
        for seed in range(300):
            self.seed = seed
            self.setUp()
            self.look(random.Random(seed))

    def look(self, rand):
        roots = []
        for _ in range(rand.randint(0, 12)):
            roots.append(self.new(rand, self.heap.refs()))
        for _ in range(3):
            rand.shuffle(roots)
            del roots[rand.randint(0, 3):]
            before = {ref: self.heap.kind(ref) for ref in self.heap.refs()}
            kept = reachable(self.heap, roots)
            made = {}
            self.collector.begin(roots)
            usable = list(kept)
            while not self.collector.step(rand.randint(0, 2)):
                for _ in range(rand.randint(0, 2)):
                    if not usable or rand.random() < 0.5:
                        ref = self.new(rand, usable)
                        usable.append(ref)
                        made[ref] = self.heap.kind(ref)
                    else:
                        ref = rand.choice(usable)
                        if self.heap.atoms(ref):
                            place = rand.randrange(len(self.heap.atoms(ref)))
                            self.heap.put(ref, place, rand.choice([None, 1, "@x"] + usable))
            after = {ref: self.heap.kind(ref) for ref in self.heap.refs()}
            wanted = {ref: before[ref] for ref in kept}
            wanted.update(made)
            self.assertEqual(after, wanted, self.seed)
            roots = usable

    def new(self, rand, refs):
        self.count = getattr(self, "count", 0) + 1
        atoms = [rand.choice([None, 7, "@", *refs]) for _ in range(rand.randint(0, 3))]
        return self.heap.make(f"k{self.count}", atoms)


class FreeTest(CollectCase):
    """Objects are freed by their owner while a collection is under way: what they named stays."""

    def test_free_while_a_collection_is_under_way(self):
        for steps in range(8):
            self.setUp()
            a, b, c, d = self.rows((None, None), (None,), ("c",), (None,))
            self.heap.put(a, 0, b)
            self.heap.put(b, 0, c)
            self.collector.begin([a])
            self.collector.step(steps)
            new = self.heap.make("new", (c,))
            self.heap.put(a, 0, new)
            self.heap.free(b)
            again = self.heap.make("row", (new,))
            while self.collector.busy():
                self.collector.step()
            refs = self.heap.refs()
            self.assertLessEqual({a, c, new, again}, set(refs))
            self.assertEqual([self.heap.atoms(new), self.heap.atoms(c)], [(c,), ("c",)])
            self.assertEqual(len(refs), 4, (steps, refs, d))


if __name__ == "__main__":
    unittest.main()
