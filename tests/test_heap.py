import random
import unittest

from lastingrun.errors import NoObject, NoPlace
from lastingrun.heap import Heap
from lastingrun.memory import Memory


def cells(memory, many):
    return [memory.get(cell) for cell in range(many)]


class HeapCase(unittest.TestCase):
    def setUp(self):
        self.memory = Memory()
        self.heap = Heap(self.memory)

    def no_object(self, *refs):
        """Looks at all methods that take a REF, with strings that are none."""
        for ref in refs:
            before = [self.memory.page(number) for number in range(20)]
            for call in (lambda: self.heap.kind(ref), lambda: self.heap.atoms(ref), lambda: self.heap.get(ref, 0),
                         lambda: self.heap.put(ref, 0, 1), lambda: self.heap.free(ref),
                         lambda: self.heap.get(ref, -1), lambda: self.heap.put(ref, 99, 1)):
                with self.assertRaises(NoObject) as caught:
                    call()
                self.assertEqual(caught.exception.ref, ref)
            self.assertEqual([self.memory.page(number) for number in range(20)], before)


class ExampleTest(HeapCase):
    def test_document(self):
        heap = self.heap
        self.assertEqual(
            [heap.make("row", (1, 2)), heap.make("row", ("@0",)), heap.free("@0"), heap.make("box", (None, 3)),
             heap.refs()],
            ["@0", "@4", None, "@0", ["@0", "@4"]])
        self.assertEqual([heap.kind("@0"), heap.atoms("@0"), heap.get("@4", 0)], ["box", (None, 3), "@0"])
        with self.assertRaises(NoObject) as caught:
            heap.get("@1", 0)
        self.assertEqual(caught.exception.ref, "@1")


class ObjectTest(HeapCase):
    def test_cells(self):
        self.heap.make("row", (1, "x", None))
        self.heap.make("", ())
        self.heap.make("12", ("@0", -5))
        self.assertEqual(cells(self.memory, 12), ["row", 3, 1, "x", None, "", 0, "12", 2, "@0", -5, None])
        self.assertEqual(self.heap.refs(), ["@0", "@5", "@7"])

    def test_no_atoms(self):
        self.assertEqual([self.heap.make("a", ()), self.heap.make("b", []), self.heap.make("c", (1,))],
                         ["@0", "@2", "@4"])
        self.assertEqual([self.heap.kind("@2"), self.heap.atoms("@2"), self.heap.atoms("@4")], ["b", (), (1,)])
        for place in (0, -1, 1):
            with self.assertRaises(NoPlace) as caught:
                self.heap.get("@2", place)
            self.assertEqual(caught.exception.place, place)

    def test_kinds_of_objects(self):
        for kind in ("", "0", "12", "a @ b", "none", " @", "-1"):
            ref = self.heap.make(kind, (kind, None))
            self.assertEqual([self.heap.kind(ref), self.heap.atoms(ref)], [kind, (kind, None)])
        self.assertEqual(self.heap.refs(), [f"@{cell}" for cell in range(0, 28, 4)])
        self.assertEqual(Heap(self.memory).refs(), self.heap.refs())

    def test_atoms(self):
        atoms = (None, 0, -7, 10 ** 30, "", "@", "@0", "@01", "row", None)
        ref = self.heap.make("row", atoms)
        self.assertEqual(self.heap.atoms(ref), atoms)
        self.assertEqual(tuple(self.heap.get(ref, place) for place in range(10)), atoms)

    def test_put(self):
        ref = self.heap.make("row", (1, 2, 3))
        other = self.heap.make("row", (4,))
        for atom in (5, "x", other, ref, "@", "@no", "@1", None, "", 0):
            for place in range(3):
                self.heap.put(ref, place, atom)
                self.assertEqual(self.heap.get(ref, place), atom)
            self.assertEqual(self.heap.atoms(ref), (atom,) * 3)
        self.assertEqual([self.heap.atoms(other), self.heap.refs()], [(4,), ["@0", "@5"]])

    def test_places(self):
        ref = self.heap.make("row", (1, 2))
        self.heap.make("row", (3,))
        for place in (-1, -2, 2, 3, 10 ** 9, -10 ** 9):
            with self.assertRaises(NoPlace) as caught:
                self.heap.get(ref, place)
            self.assertEqual(caught.exception.place, place)
            with self.assertRaises(NoPlace) as caught:
                self.heap.put(ref, place, 9)
            self.assertEqual(caught.exception.place, place)
        self.assertEqual(cells(self.memory, 8), ["row", 2, 1, 2, "row", 1, 3, None])

    def test_free(self):
        refs = [self.heap.make("row", (k, None, "x")) for k in range(3)]
        self.heap.free(refs[1])
        self.assertEqual(cells(self.memory, 16),
                         ["row", 3, 0, None, "x"] + [None] * 5 + ["row", 3, 2, None, "x", None])
        self.assertEqual(self.heap.refs(), [refs[0], refs[2]])
        self.no_object(refs[1])
        self.heap.free(refs[2])
        self.heap.free(refs[0])
        self.assertEqual([self.heap.refs(), self.memory.many()], [[], 0])

    def test_an_object_may_name_a_freed_one(self):
        one = self.heap.make("row", (None,))
        two = self.heap.make("row", (one,))
        self.heap.free(one)
        self.assertEqual(self.heap.get(two, 0), one)

    def test_lists_for_tuples(self):
        atoms = [1, None, "x"]
        ref = self.heap.make("row", atoms)
        atoms[0] = 9
        self.assertEqual([self.heap.atoms(ref), atoms], [(1, None, "x"), [9, None, "x"]])
        self.assertIs(type(self.heap.atoms(ref)), tuple)

    def test_by_name(self):
        ref = self.heap.make(atoms=(1, 2), kind="row")
        self.heap.put(ref=ref, place=1, atom=5)
        self.assertEqual([self.heap.get(place=1, ref=ref), self.heap.kind(ref=ref), self.heap.atoms(ref=ref)],
                         [5, "row", (1, 5)])
        self.heap.free(ref=ref)
        self.assertEqual(Heap(memory=self.memory).refs(), [])

    def test_refs_are_new(self):
        self.heap.make("row", ())
        self.heap.refs().append("more")
        self.assertEqual(self.heap.refs(), ["@0"])
        self.assertEqual(Heap(Memory()).refs(), [])

    def test_refs_ascend_by_cells(self):
        for _ in range(6):
            self.heap.make("row", (1,))
        self.heap.free("@3")
        self.heap.make("row", (1,))
        self.assertEqual(self.heap.refs(), ["@0", "@3", "@6", "@9", "@12", "@15"])


class PlaceTest(HeapCase):
    def made(self, *manies):
        return [self.heap.make("o", (None,) * many) for many in manies]

    def test_a_hole_that_just_fits(self):
        refs = self.made(3, 1, 2)
        self.heap.free(refs[1])
        self.assertEqual(self.made(1), ["@5"])
        self.heap.free(refs[0])
        self.assertEqual(self.made(3, 0), ["@0", "@12"])

    def test_a_hole_that_is_too_small(self):
        refs = self.made(1, 1, 4)
        self.heap.free(refs[0])
        self.assertEqual(self.made(2), ["@12"])
        self.assertEqual(self.made(0), ["@0"])
        # One cell is left there, which is too small for any object.
        self.assertEqual(self.made(0), ["@16"])

    def test_holes_that_lie_side_by_side(self):
        refs = self.made(1, 1, 1, 1)
        self.heap.free(refs[1])
        self.heap.free(refs[2])
        self.assertEqual(self.made(4, 0), ["@3", "@12"])

    def test_the_lowest_hole(self):
        refs = self.made(1, 0, 4, 0, 2, 0)
        for at in (0, 2, 4):
            self.heap.free(refs[at])
        self.assertEqual(self.made(2, 1, 1, 2, 5), ["@5", "@0", "@13", "@19", "@23"])

    def test_holes_between_objects_whose_last_atoms_are_none(self):
        """The cells of an object are not free, whatever they hold."""
        refs = self.made(4, 0, 4)
        self.assertEqual(cells(self.memory, 14)[2:6], [None] * 4)
        self.assertEqual(self.made(0), ["@14"])
        self.heap.free(refs[1])
        self.assertEqual(self.made(1), ["@16"])
        self.assertEqual(self.made(0), ["@6"])
        self.assertEqual(Heap(self.memory).make("o", (None, None, None)), "@19")
        self.assertEqual(Heap(self.memory).make("o", ()), "@24")

    def test_the_last_object_ends_in_nones(self):
        self.made(6)
        self.assertEqual(Heap(self.memory).make("o", ()), "@8")
        self.assertEqual(self.made(0), ["@10"])

    def test_a_hole_at_the_beginning(self):
        refs = self.made(2, 0)
        self.heap.free(refs[0])
        self.assertEqual(self.made(3, 2), ["@6", "@0"])


class RefTest(HeapCase):
    def test_strings_that_are_no_ref(self):
        self.heap.make("row", (1, 2))
        self.heap.make("row", ("3", 1, 7, 8))
        self.no_object("", "@", "0", "4", "row", "@00", "@04", "@-1", "@-0", "@+4", "@1", "@2", "@3", "@5", "@6", "@10",
                       "@1000000000000000000", "@" + "9" * 6000, "@ 4", "@4 ", " @4", "@@4", "@4.0", "@4a", "@x",
                       "@\u0664", "@\u00b2", "@1_0", "none", "@0x0")

    def test_an_object_within_an_object(self):
        """ATOMs that look like an object are none."""
        self.heap.make("row", ("row", 1, 5))
        self.no_object("@2", "@1", "@3", "@4")
        self.assertEqual(Heap(self.memory).refs(), ["@0"])

    def test_an_empty_heap(self):
        self.no_object("@0", "@", "")

    def test_ref_of_another_size(self):
        self.heap.make("row", (1, 2, 3))
        self.heap.free("@0")
        self.heap.make("row", (1,))
        self.heap.make("row", ())
        self.assertEqual(self.heap.refs(), ["@0", "@3"])
        self.no_object("@5", "@4")


class SharedTest(HeapCase):
    def test_a_second_heap(self):
        self.heap.make("row", (1, 2))
        other = Heap(self.memory)
        self.assertEqual([other.refs(), other.atoms("@0"), other.make("box", (3,))], [["@0"], (1, 2), "@4"])
        self.assertEqual([self.heap.refs(), self.heap.atoms("@4")], [["@0", "@4"], (3,)])
        self.heap.free("@0")
        with self.assertRaises(NoObject):
            other.kind("@0")
        other.make("a", ())
        self.heap.put("@4", 0, "x")
        self.assertEqual([other.get("@4", 0), self.heap.kind("@0"), self.heap.make("b", ())], ["x", "a", "@2"])
        self.assertEqual(other.refs(), ["@0", "@2", "@4"])

    def test_a_second_heap_that_frees_and_makes(self):
        self.heap.make("row", (1, 2))
        other = Heap(self.memory)
        other.free("@0")
        other.make("row", (1,))
        with self.assertRaises(NoPlace):
            self.heap.get("@0", 1)
        self.assertEqual(self.heap.make("row", (None,)), "@3")

    def test_the_memory_is_written_to_directly(self):
        self.heap.make("row", (1, 2))
        self.memory.put(2, "x")
        self.assertEqual(self.heap.atoms("@0"), ("x", 2))
        for cell, atom in enumerate(("box", 1, 7)):
            self.memory.put(10 + cell, atom)
        self.assertEqual([self.heap.refs(), self.heap.atoms("@10")], [["@0", "@10"], (7,)])
        self.assertEqual([self.heap.make("o", (1,) * 5), self.heap.make("o", ())], ["@13", "@4"])

    def test_an_object_far_away(self):
        memory = Memory()
        far = 10 ** 12
        memory.put(far, "box")
        memory.put(far + 1, 2)
        heap = Heap(memory)
        self.assertEqual([heap.refs(), heap.atoms(f"@{far}"), heap.make("a", (1,))], [[f"@{far}"], (None, None), "@0"])

    def test_pages_of_the_beginning(self):
        memory = Memory((("row", 3, 1), (None, "box", 0), ("x", 1, "@0")))
        heap = Heap(memory)
        self.assertEqual([heap.refs(), heap.atoms("@0")], [["@0", "@9", "@16"], (1, None, None)])
        self.assertEqual(heap.make("y", (1, 2)), "@5")

    def test_a_frozen_memory(self):
        self.heap.make("row", (1,))
        self.memory.freeze()
        self.heap.free("@0")
        self.assertEqual([self.heap.make("box", (2,)), self.memory.frozen(0)], ["@0", ("row", 1, 1)])
        self.memory.thaw()
        self.assertEqual(self.heap.atoms("@0"), (2,))


class ModelTest(unittest.TestCase):
    """Against a list of objects and a list of free cells."""

    def test_at_random(self):
        for seed in range(80):
            self.look(random.Random(seed))

    def lowest(self, objects, size):
        taken = {cell for first, (_, atoms) in objects.items() for cell in range(first, first + 2 + len(atoms))}
        at = 0
        while any(cell in taken for cell in range(at, at + size)):
            at += 1
        return at

    def look(self, rand):
        memory = Memory()
        heaps = [Heap(memory), Heap(memory)]
        objects = {}
        for _ in range(60):
            heap = rand.choice(heaps)
            roll = rand.random()
            if roll < 0.5 or not objects:
                kind = rand.choice(("", "a", "7"))
                atoms = [rand.choice((None, 1, "a", "@0", "@3")) for _ in range(rand.randint(0, 5))]
                cell = self.lowest(objects, 2 + len(atoms))
                self.assertEqual(heap.make(kind, atoms), f"@{cell}")
                objects[cell] = (kind, atoms)
            elif roll < 0.75:
                cell = rand.choice(list(objects))
                heap.free(f"@{cell}")
                del objects[cell]
            else:
                cell = rand.choice(list(objects))
                if objects[cell][1]:
                    place = rand.randrange(len(objects[cell][1]))
                    objects[cell][1][place] = rand.choice((None, 2, "@", "b"))
                    heap.put(f"@{cell}", place, objects[cell][1][place])
            heap = rand.choice([*heaps, Heap(memory)])
            self.assertEqual(heap.refs(), [f"@{cell}" for cell in sorted(objects)])
            for cell, (kind, atoms) in objects.items():
                self.assertEqual((heap.kind(f"@{cell}"), heap.atoms(f"@{cell}")), (kind, tuple(atoms)))
            wanted = [None] * 500
            for cell, (kind, atoms) in objects.items():
                wanted[cell:cell + 2 + len(atoms)] = [kind, len(atoms), *atoms]
            self.assertEqual(cells(memory, 500), wanted)


if __name__ == "__main__":
    unittest.main()
