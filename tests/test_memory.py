import random
import unittest

from lastingrun.errors import Busy, Idle
from lastingrun.limits import PAGE
from lastingrun.memory import Memory


def trimmed(atoms):
    atoms = list(atoms)
    while atoms and atoms[-1] is None:
        atoms.pop()
    return tuple(atoms)


class ExampleTest(unittest.TestCase):
    def test_document(self):
        memory = Memory(((1, None, 2),))
        self.assertEqual(
            [memory.put(0, 5), memory.freeze(), memory.put(0, 6), memory.put(9, "x"), memory.frozen(0), memory.page(0)],
            [None, [0], None, None, (5, None, 2), (6, None, 2)])
        self.assertEqual([memory.settle(), memory.changed(), memory.many(), memory.page(1)],
                         [None, [0, 1], 2, (None, "x")])


class CellTest(unittest.TestCase):
    def test_a_new_memory(self):
        memory = Memory()
        self.assertEqual([memory.get(0), memory.get(7), memory.get(10 ** 9), memory.many(), memory.page(0),
                          memory.page(5), memory.changed()], [None, None, None, 0, (), (), []])

    def test_get_and_put(self):
        memory = Memory()
        for cell, atom in ((0, 1), (7, "a"), (8, -5), (15, ""), (16, 10 ** 30), (1, "@0"), (9, 0)):
            memory.put(cell, atom)
        self.assertEqual([memory.get(cell) for cell in range(18)],
                         [1, "@0", None, None, None, None, None, "a", -5, 0, None, None, None, None, None, "",
                          10 ** 30, None])
        self.assertEqual([memory.page(0), memory.page(1), memory.page(2), memory.page(3), memory.many()],
                         [(1, "@0", None, None, None, None, None, "a"), (-5, 0, None, None, None, None, None, ""),
                          (10 ** 30,), (), 3])

    def test_put_replaces(self):
        memory = Memory(((1, 2),))
        memory.put(0, 3)
        memory.put(0, "3")
        memory.put(1, None)
        self.assertEqual([memory.get(0), memory.get(1), memory.page(0)], ["3", None, ("3",)])

    def test_pages_of_the_beginning(self):
        memory = Memory((tuple(range(PAGE)), ("a",)))
        self.assertEqual([memory.get(PAGE - 1), memory.get(PAGE), memory.get(PAGE + 1), memory.many()],
                         [PAGE - 1, "a", None, 2])

    def test_nones_at_the_ends_of_pages(self):
        memory = Memory(((1, None, None), (None, None), (2, None), (None,), (), (None,) * PAGE))
        self.assertEqual([memory.many(), memory.page(0), memory.page(1), memory.page(2), memory.page(3)],
                         [3, (1,), (), (2,), ()])
        self.assertEqual(memory.changed(), [])

    def test_pages_as_lists(self):
        pages = [[1, None, 2], [], ["x"]]
        memory = Memory(pages=pages)
        self.assertEqual([memory.page(0), memory.page(1), memory.page(2), memory.many()],
                         [(1, None, 2), (), ("x",), 3])
        pages[0][0] = 9
        pages[2].append(9)
        pages.append([9])
        self.assertEqual([memory.page(0), memory.page(2), memory.many(), memory.changed()],
                         [(1, None, 2), ("x",), 3, []])
        memory.put(0, 5)
        memory.put(17, 5)
        self.assertEqual(pages, [[9, None, 2], [], ["x", 9], [9]])

    def test_an_empty_page_between_others(self):
        memory = Memory(((), (1,)))
        self.assertEqual([memory.many(), memory.get(0), memory.get(PAGE)], [2, None, 1])

    def test_a_cell_far_away(self):
        memory = Memory()
        far = 10 ** 12 * PAGE + 3
        memory.put(far, "x")
        self.assertEqual([memory.get(far), memory.get(far - 1), memory.many(), memory.page(10 ** 12), memory.changed()],
                         ["x", None, 10 ** 12 + 1, (None, None, None, "x"), [10 ** 12]])
        memory.freeze()
        self.assertEqual([memory.frozen_many(), memory.frozen(10 ** 12)], [10 ** 12 + 1, (None, None, None, "x")])
        memory.put(far, None)
        self.assertEqual([memory.many(), memory.page(10 ** 12), memory.changed(), memory.frozen_many()],
                         [0, (), [], 10 ** 12 + 1])

    def test_put_of_none_into_the_last_cell(self):
        memory = Memory(((1, 2), (), (3, None, 4)))
        memory.put(18, None)
        self.assertEqual([memory.many(), memory.page(2)], [3, (3,)])
        memory.put(16, None)
        self.assertEqual([memory.many(), memory.page(2), memory.changed()], [1, (), [2]])
        memory.put(1, None)
        memory.put(0, None)
        self.assertEqual([memory.many(), memory.page(0), memory.changed()], [0, (), [0, 2]])

    def test_put_of_none_where_nothing_is(self):
        memory = Memory()
        memory.put(50, None)
        self.assertEqual([memory.many(), memory.changed()], [0, []])

    def test_by_name(self):
        memory = Memory()
        memory.put(cell=3, atom="a")
        memory.put(atom="b", cell=4)
        self.assertEqual([memory.get(cell=3), memory.page(number=0)], ["a", (None, None, None, "a", "b")])
        memory.freeze()
        self.assertEqual(memory.frozen(number=0), (None, None, None, "a", "b"))

    def test_kinds(self):
        memory = Memory([[1]])
        memory.put(9, 1)
        self.assertIs(type(memory.page(0)), tuple)
        self.assertIs(type(memory.page(9)), tuple)
        self.assertIs(type(memory.changed()), list)
        self.assertIs(type(memory.freeze()), list)
        self.assertIs(type(memory.frozen(0)), tuple)

    def test_returned_lists_are_new(self):
        memory = Memory()
        memory.put(0, 1)
        memory.changed().append(7)
        memory.freeze().append(7)
        self.assertEqual([memory.changed(), memory.changed()], [[0], [0]])


class ChangedTest(unittest.TestCase):
    def test_pages_that_differ(self):
        memory = Memory(((1,), (2,), (3,), (4,)))
        memory.put(25, 1)
        memory.put(0, 5)
        memory.put(8, 2)
        self.assertEqual(memory.changed(), [0, 3])

    def test_changes_that_were_taken_back(self):
        memory = Memory(((1, 2),))
        memory.put(0, 5)
        memory.put(2, 6)
        memory.put(0, 1)
        self.assertEqual(memory.changed(), [0])
        memory.put(2, None)
        self.assertEqual(memory.changed(), [])

    def test_pages_that_are_empty_now(self):
        memory = Memory(((1,), (2,)))
        memory.put(0, None)
        memory.put(8, None)
        self.assertEqual([memory.changed(), memory.many()], [[0, 1], 0])

    def test_kinds_of_atoms_differ(self):
        memory = Memory(((1, "2"),))
        memory.put(0, "1")
        self.assertEqual(memory.changed(), [0])
        memory.put(0, 1)
        memory.put(1, 2)
        self.assertEqual(memory.changed(), [0])
        self.assertEqual(memory.page(0), (1, 2))


class FrozenTest(unittest.TestCase):
    def test_freeze_twice(self):
        memory = Memory(((1,),))
        self.assertEqual(memory.freeze(), [])
        memory.put(0, 2)
        with self.assertRaises(Busy):
            memory.freeze()
        self.assertEqual([memory.frozen(0), memory.page(0), memory.changed()], [(1,), (2,), [0]])
        memory.thaw()
        self.assertEqual(memory.freeze(), [0])
        memory.settle()
        self.assertEqual(memory.freeze(), [])

    def test_without_freeze(self):
        for memory in (Memory(), Memory(((1,),))):
            for call in (memory.settle, memory.thaw, memory.frozen_many, lambda: memory.frozen(0),
                         lambda: memory.frozen(99)):
                with self.assertRaises(Idle):
                    call()
            memory.put(0, 5)
            memory.freeze()
            memory.settle()
            with self.assertRaises(Idle):
                memory.settle()
            with self.assertRaises(Idle):
                memory.frozen(0)
            memory.freeze()
            memory.thaw()
            with self.assertRaises(Idle):
                memory.thaw()
            with self.assertRaises(Idle):
                memory.frozen_many()

    def test_idle_changes_nothing(self):
        memory = Memory(((1,),))
        memory.put(0, 2)
        with self.assertRaises(Idle):
            memory.settle()
        self.assertEqual([memory.changed(), memory.page(0)], [[0], (2,)])

    def test_a_page_that_is_changed_afterwards(self):
        memory = Memory(((1,), (2,)))
        memory.put(0, 3)
        memory.freeze()
        memory.put(0, 4)
        memory.put(0, 5)
        memory.put(9, 6)
        memory.put(16, 7)
        self.assertEqual([memory.frozen(number) for number in range(4)], [(3,), (2,), (), ()])
        self.assertEqual([memory.page(number) for number in range(4)], [(5,), (2, 6), (7,), ()])
        self.assertEqual([memory.frozen_many(), memory.many(), memory.changed()], [2, 3, [0, 1, 2]])

    def test_the_frozen_number_of_pages(self):
        memory = Memory(((1,), (2,)))
        memory.freeze()
        memory.put(8, None)
        self.assertEqual([memory.frozen_many(), memory.many(), memory.frozen(1)], [2, 1, (2,)])
        memory.thaw()
        memory.freeze()
        self.assertEqual(memory.frozen_many(), 1)

    def test_changed_while_frozen(self):
        """It tells about the present state and the base, which is not the frozen state yet."""
        memory = Memory(((1,), (2,)))
        memory.put(0, 3)
        self.assertEqual([memory.freeze(), memory.changed()], [[0], [0]])
        memory.put(8, 4)
        self.assertEqual(memory.changed(), [0, 1])
        memory.put(0, 1)
        self.assertEqual(memory.changed(), [1])

    def test_settle(self):
        memory = Memory(((1,), (2,)))
        memory.put(0, 3)
        memory.freeze()
        memory.settle()
        self.assertEqual([memory.changed(), memory.page(0)], [[], (3,)])
        memory.put(0, 1)
        self.assertEqual(memory.changed(), [0])
        memory.put(0, 3)
        self.assertEqual(memory.changed(), [])

    def test_settle_and_what_changed_back(self):
        memory = Memory(((1,),))
        memory.put(0, 2)
        memory.freeze()
        memory.put(0, 1)
        self.assertEqual(memory.changed(), [])
        memory.settle()
        self.assertEqual(memory.changed(), [0])
        memory.put(0, 2)
        self.assertEqual(memory.changed(), [])

    def test_settle_and_what_changed_meanwhile(self):
        memory = Memory(((1,), (2,)))
        memory.freeze()
        memory.put(0, 5)
        memory.put(30, 5)
        memory.settle()
        self.assertEqual(memory.changed(), [0, 3])
        memory.put(30, None)
        memory.put(0, 1)
        self.assertEqual(memory.changed(), [])

    def test_thaw(self):
        memory = Memory(((1,), (2,)))
        memory.put(0, 3)
        memory.freeze()
        memory.put(8, 4)
        memory.thaw()
        self.assertEqual([memory.changed(), memory.page(0), memory.page(1)], [[0, 1], (3,), (4,)])
        memory.put(0, 1)
        memory.put(8, 2)
        self.assertEqual(memory.changed(), [])

    def test_a_page_is_copied_when_it_changes_first(self):
        """To freeze is not to copy: what is kept grows by the pages that change."""
        memory = Memory([(number,) for number in range(1, 50)])
        memory.freeze()
        self.assertEqual(len(memory._kept), 0)
        memory.put(8, 100)
        memory.put(9, 100)
        memory.put(80, 11)
        self.assertEqual(sorted(memory._kept), [1])
        self.assertEqual(memory.frozen(1), (2,))


class Model:
    """A memory that copies everything."""

    def __init__(self, cells):
        self.cells = dict(cells)
        self.base = dict(cells)
        self.kept = None

    def page(self, cells, number):
        return trimmed(cells.get(cell) for cell in range(number * PAGE, number * PAGE + PAGE))

    def many(self, cells):
        return max([cell // PAGE + 1 for cell, atom in cells.items() if atom is not None], default=0)

    def changed(self):
        return [number for number in range(12) if self.page(self.cells, number) != self.page(self.base, number)]


class ModelTest(unittest.TestCase):
    def test_at_random(self):
        for seed in range(60):
            self.look(random.Random(seed))

    def look(self, rand):
        pages = [tuple(rand.choice((None, 1, "a")) for _ in range(rand.randint(0, PAGE)))
                 for _ in range(rand.randint(0, 5))]
        memory = Memory(pages)
        model = Model({number * PAGE + at: atom for number, page in enumerate(pages) for at, atom in enumerate(page)})
        for _ in range(120):
            roll = rand.random()
            if roll < 0.8:
                cell, atom = rand.randrange(12 * PAGE), rand.choice((None, None, 1, 2, "a"))
                if rand.random() < 0.5:
                    cell %= 20
                memory.put(cell, atom)
                model.cells[cell] = atom
            elif model.kept is None:
                self.assertEqual(memory.freeze(), model.changed())
                model.kept = dict(model.cells)
            else:
                if roll < 0.9:
                    memory.settle()
                    model.base = model.kept
                else:
                    memory.thaw()
                model.kept = None
            self.assertEqual(memory.changed(), model.changed())
            self.assertEqual(memory.many(), model.many(model.cells))
            for number in range(13):
                self.assertEqual(memory.page(number), model.page(model.cells, number))
            if model.kept is not None:
                self.assertEqual(memory.frozen_many(), model.many(model.kept))
                for number in range(13):
                    self.assertEqual(memory.frozen(number), model.page(model.kept, number))
            cell = rand.randrange(100)
            self.assertEqual(memory.get(cell), model.cells.get(cell))


if __name__ == "__main__":
    unittest.main()
