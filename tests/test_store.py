import copy
import itertools
import random
import unittest

from stores import Watched, nodes, pages, root, snapshot

from lastingrun.disk import Disk, disk_of
from lastingrun.errors import Busy, Full, Idle, NoRoot, Stopped
from lastingrun.limits import PAGE
from lastingrun.memory import Memory
from lastingrun.store import Store, make_store


def set_pages(memory, wanted):
    """Makes a memory have these pages."""
    for number in range(max(memory.many(), len(wanted))):
        page = wanted[number] if number < len(wanted) else ()
        for at in range(PAGE):
            memory.put(number * PAGE + at, page[at] if at < len(page) else None)


def all_pages(store):
    return tuple(store.page(number) for number in range(store.many()))


class StoreCase(unittest.TestCase):
    low = 3

    def begin(self, high, facts=("first",)):
        """A new store in the blocks from low on, and an empty memory."""
        self.high = high
        self.disk = Watched(high)
        make_store(self.disk, self.low, high, facts)
        self.store = Store(self.disk, self.low, high)
        self.memory = Memory()
        self.count = 0

    def full(self, call):
        with self.assertRaises(Full) as caught:
            call()
        self.assertEqual(caught.exception.count, self.high - self.low)

    def save(self, wanted, steps=()):
        """Saves these pages; looks at each write and barrier."""
        set_pages(self.memory, wanted)
        self.count += 1
        facts = (self.count, "f", None)
        before = self.disk.image()
        done, is_full = snapshot(before, self.low, self.high, wanted, facts)
        self.disk.done = []
        many = self.disk.writes()
        left = sum(1 for number, page in enumerate(wanted) if page and page != self.store.page(number))
        self.assertIsNone(self.store.begin(self.memory, facts))
        self.assertEqual([self.disk.done, self.store.is_open()], [[], True])
        if is_full:
            self.full(self.store.finish)
            self.assertEqual(self.disk.done, done)
            self.assertEqual(self.disk.image()[:2], before[:2])
            return False
        for count in steps:
            left = max(0, left - count)
            self.assertEqual(self.store.step(count), left)
        self.assertEqual(self.store.finish(), self.store.newest())
        self.assertEqual(self.disk.done, done)
        self.assertEqual(self.disk.writes() - many, len(done) - 2)
        self.look(wanted, facts)
        self.assertEqual(self.memory.changed(), [])
        return True

    def look(self, wanted, facts):
        """Looks at the store, at one that is opened anew, and at what the disk shows."""
        number = root(self.disk.image())[1]
        used = nodes(self.disk.image()).values()
        free = [place for place in range(self.low, self.high) if place not in used]
        self.assertEqual(pages(self.disk.image()), tuple(wanted))
        for store in (self.store, Store(self.disk, self.low, self.high)):
            self.assertEqual([store.newest(), store.facts(), store.many(), all_pages(store), store.is_open()],
                             [number, facts, len(wanted), tuple(wanted), False])
            self.assertEqual(store.free(), free)
            self.assertEqual([store.page(len(wanted)), store.page(len(wanted) + 1000)], [(), ()])


class ExampleTest(unittest.TestCase):
    def test_document(self):
        disk = Disk(10)
        make_store(disk, 4, 10, ("a",))
        store = Store(disk, 4, 10)
        memory = Memory()
        self.assertEqual([memory.put(0, 1), memory.put(16, 3), memory.put(17, 3)], [None] * 3)
        self.assertEqual(
            [store.begin(memory, ("b",)), memory.put(0, 2), store.step(1), store.finish(), store.free(),
             disk.image()[:7]],
            [None, None, 1, 1, [7, 8, 9],
             (("root", 0, None, 0, 0, "a"), ("root", 1, 6, 1, 3, "b"), (), (), (1,), (3, 3), (4, None, 5))])
        self.assertEqual(
            [memory.put(0, 1), store.begin(memory, ("c",)), store.finish(), disk.writes(), store.page(0), store.page(1)],
            [None, None, 2, 6, (1,), ()])
        self.assertEqual([store.newest(), store.facts(), store.many(), store.is_open()], [2, ("c",), 3, False])


class MakeTest(StoreCase):
    def test_make_store(self):
        self.begin(8)
        self.assertEqual(self.disk.done, [(0, ("root", 0, None, 0, 0, "first")), "barrier"])
        self.look((), ("first",))
        disk = Watched(4)
        self.assertIsNone(make_store(disk=disk, low=2, high=4, facts=[1, None]))
        store = Store(disk=disk, low=2, high=4)
        self.assertEqual([disk.read(0), store.facts(), store.free(), store.newest()],
                         [("root", 0, None, 0, 0, 1, None), (1, None), [2, 3], 0])
        self.assertEqual(len(disk.done), 2)

    def test_no_facts_and_sixteen(self):
        for facts in ((), tuple(range(16))):
            self.begin(5, facts)
            self.look((), facts)

    def test_no_places(self):
        disk = Disk(2)
        make_store(disk, 2, 2, ())
        store = Store(disk, 2, 2)
        self.assertEqual([store.free(), store.many()], [[], 0])
        memory = Memory()
        store.begin(memory, (1,))
        self.assertEqual([store.finish(), store.facts()], [1, (1,)])
        memory.put(0, 1)
        store.begin(memory, (2,))
        with self.assertRaises(Full) as caught:
            store.finish()
        self.assertEqual(caught.exception.count, 0)

    def test_queries_write_nothing(self):
        self.begin(8)
        self.disk.fail_after(0)
        store = Store(self.disk, self.low, 8)
        store.free().append(99)
        self.assertEqual([store.free(), store.newest(), store.facts(), store.many(), store.page(0), store.is_open()],
                         [[3, 4, 5, 6, 7], 0, ("first",), 0, (), False])


class RootTest(unittest.TestCase):
    good = ("root", 4, 3, 1, 2, "f")

    def opened(self, zero, one, pages_there=True):
        disk = disk_of((zero, one, ("a",), (2, 4) if pages_there else (), ("b",)))
        return Store(disk, 2, 5)

    def test_the_newest_one(self):
        for number in (4, 6, 10 ** 20):
            other = ("root", 5, None, 0, 0, "other")
            store = self.opened(("root", number, 3, 1, 2, "f"), other)
            self.assertEqual(store.newest(), max(number, 5))
            self.assertEqual(store.facts(), ("f",) if number > 5 else ("other",))
            self.assertEqual(all_pages(store), (("a",), ("b",)) if number > 5 else ())
        self.assertEqual(self.opened(("root", 0, None, 0, 0), ()).newest(), 0)
        self.assertEqual(self.opened((), ("root", 1, None, 0, 0)).newest(), 1)

    def test_in_the_wrong_place(self):
        self.assertRaises(NoRoot, self.opened, ("root", 1, None, 0, 0), ("root", 0, None, 0, 0))
        self.assertEqual(self.opened(self.good, ("root", 6, None, 0, 0)).newest(), 4)
        self.assertEqual(self.opened(("root", 7, None, 0, 0), ("root", 5, None, 0, 0, "x")).newest(), 5)

    def test_no_roots(self):
        self.assertRaises(NoRoot, Store, Disk(5), 2, 5)
        wrong = [(), ("root",), ("root", 4), ("root", 4, 3), ("root", 4, 3, 1), ("Root", *self.good[1:]),
                 (None, *self.good[1:]), (4, *self.good[1:]), ("root", 5, *self.good[2:]),
                 ("root", 4, 3, 1, 2, *range(17)), ("root", 4, 3, 1, 2, *range(19))]
        wrong += [("root", number, 3, 1, 2) for number in (-2, "4", None, "", -1, 3)]
        wrong += [("root", 4, top, 1, 2) for top in ("3", "", "@3")]
        wrong += [("root", 4, 3, height, 2) for height in (0, 2, -1, "1", None, "")]
        wrong += [("root", 4, 3, 1, many) for many in (0, 1, 5, 16, -1, -2, "2", None)]
        for block in wrong:
            self.assertRaises(NoRoot, self.opened, block, ())
            self.assertEqual(self.opened(block, ("root", 1, None, 0, 0, "x")).facts(), ("x",), block)
        for block in (self.good, ("root", 4, 3, 1, 2), ("root", 4, 3, 1, 4), ("root", 4, 3, 1, 2, *range(16)),
                      ("root", 4, None, 1, 3, None)):
            self.assertEqual(self.opened(block, ("root", 1, None, 0, 0)).newest(), 4)

    def test_depths(self):
        for many, height in ((0, 0), (1, 0), (2, 1), (4, 1), (5, 2), (16, 2), (17, 3), (64, 3), (65, 4), (256, 4),
                             (257, 5), (1024, 5), (1025, 6), (4 ** 30, 30), (4 ** 30 + 1, 31)):
            for other in (height - 1, height + 1):
                self.assertRaises(NoRoot, self.opened, ("root", 2, None, other, many), ())
            self.assertEqual(self.opened(("root", 2, None, height, many), ()).many(), many)

    def test_pages_from_many_on(self):
        store = self.opened(("root", 4, 3, 1, 2), ())
        self.assertEqual([store.page(0), store.page(1), store.page(2), store.page(4)], [("a",), ("b",), (), ()])
        # The tree has a page more than the root says.
        store = Store(disk_of((("root", 4, 3, 1, 2), (), ("a",), (2, 4, 5), ("b",), ("c",))), 2, 6)
        self.assertEqual([store.page(1), store.page(2)], [("b",), ()])


class SnapshotTest(StoreCase):
    def test_without_changes(self):
        self.begin(12)
        for _ in range(3):
            self.save(())
        wanted = ((1,), (), (2, None, "x"))
        for _ in range(3):
            self.save(wanted)
        self.assertEqual(self.disk.done[-3:], ["barrier", (0, ("root", 6, 5, 1, 3, 6, "f", None)), "barrier"])
        self.assertEqual(len(self.disk.done), 3)

    def test_pages_that_become_empty(self):
        self.begin(20)
        self.save(((1,), (2,), (3,), (4,), (5,)))
        self.save(((1,), (), (3,), (4,), (5,)))
        self.save(((), (), (), (), (5,)))
        self.save(((), (), (), (), (), (6,)))
        self.save(())
        self.save(((), (2,)))
        self.save(((1,),))
        self.save(())

    def test_depths_that_grow_and_shrink(self):
        self.begin(200)
        for many in (1, 2, 1, 4, 5, 4, 16, 17, 5, 64, 65, 66, 64, 17, 16, 2, 0, 65, 1, 5, 0):
            self.save(tuple((number,) for number in range(many)))

    def test_only_the_root_when_a_level_goes(self):
        self.begin(30)
        four = ((0,), (1,), (2,), (3,))
        self.save((*four, (4,)))
        self.save(four)
        self.assertEqual(len(self.disk.done), 3)
        self.save((*four, (4,)))
        self.save(((0,),))
        self.assertEqual(len(self.disk.done), 3)

    def test_far_apart(self):
        self.begin(60)
        empty = [()] * 1024
        for numbers in ((0, 1023), (1023,), (3, 500, 1000), (1000,), (4, 5, 6, 7, 255, 256, 700), (255,), (0,), (64,)):
            wanted = list(empty)
            for number in numbers:
                wanted[number] = (number, "x")
            while wanted and not wanted[-1]:
                wanted.pop()
            self.save(tuple(wanted))
        self.assertEqual(root(self.disk.image())[3], 4)

    def test_one_page_far_behind_changes(self):
        self.begin(700)
        wanted = [(number, None, number) for number in range(300)]
        self.save(tuple(wanted))
        wanted[299] = ("new",)
        self.save(tuple(wanted))
        # The page, an index block on each of five levels, and the root.
        self.assertEqual(len(self.disk.done), 6 + 3)
        wanted[0] = (8,) * 8
        self.save(tuple(wanted))
        self.assertEqual(len(self.disk.done), 6 + 3)

    def test_steps(self):
        self.begin(40)
        wanted = tuple((number,) for number in range(9))
        self.save(wanted, (0, 1, 0, 3, 100, 0, 5))
        self.save(wanted, (0, 1, 9))
        self.save(((5,), *wanted[1:8], (6,)), (1, 1, 1))

    def test_what_is_put_later_is_not_saved(self):
        self.begin(30)
        set_pages(self.memory, ((1,), (2,), (3,)))
        self.store.begin(self.memory, ["x"])
        set_pages(self.memory, ((9,), (), (3,), (), (), (7,)))
        self.assertEqual(self.store.step(2), 1)
        set_pages(self.memory, ((8,), (8,), (8,)))
        self.store.finish()
        self.look(((1,), (2,), (3,)), ("x",))
        self.assertEqual(self.memory.changed(), [0, 1, 2])
        self.assertEqual([self.memory.page(number) for number in range(6)], [(8,), (8,), (8,), (), (), ()])
        self.save(((8,), (8,), (8,)))

    def test_facts_are_copied(self):
        self.begin(10)
        facts = [1, "a"]
        self.store.begin(memory=self.memory, facts=facts)
        facts[0] = 2
        self.assertEqual([self.store.facts(), self.store.finish(), self.store.facts()], [("first",), 1, (1, "a")])

    def test_what_an_open_snapshot_shows(self):
        self.begin(12)
        self.save(((1,), (2,)))
        self.assertEqual(self.store.free(), [6, 7, 8, 9, 10, 11])
        set_pages(self.memory, ((3,), (4,)))
        self.store.begin(self.memory, ())
        self.assertEqual([self.store.free(), self.store.is_open()], [[6, 7, 8, 9, 10, 11], True])
        self.assertEqual([self.store.step(count=1), self.store.free()], [1, [7, 8, 9, 10, 11]])
        self.assertEqual([self.store.newest(), self.store.many(), self.store.page(number=0), self.store.facts()],
                         [1, 2, (1,), (1, "f", None)])
        self.assertEqual([self.store.finish(), self.store.free(), self.store.page(0), self.store.is_open()],
                         [2, [3, 4, 5, 9, 10, 11], (3,), False])

    def test_busy_and_idle(self):
        self.begin(12)
        for call in (lambda: self.store.step(1), lambda: self.store.step(0), self.store.finish):
            self.assertRaises(Idle, call)
        self.memory.freeze()
        self.assertRaises(Busy, self.store.begin, self.memory, ())
        self.assertEqual([self.store.is_open(), self.disk.writes()], [False, 1])
        self.memory.thaw()
        self.store.begin(self.memory, ("x",))
        self.assertRaises(Busy, self.store.begin, self.memory, ())
        self.assertRaises(Busy, self.store.begin, Memory(), ())
        self.assertRaises(Busy, self.memory.freeze)
        self.store.finish()
        self.assertRaises(Idle, self.store.step, 1)
        self.assertRaises(Idle, self.store.finish)
        self.assertRaises(Idle, self.memory.thaw)
        self.assertEqual(self.store.facts(), ("x",))

    def test_random(self):
        for seed in range(150):
            rand = random.Random(seed)
            self.begin(rand.choice((40, 90, 200)))
            wanted = []
            for _ in range(15):
                for _ in range(rand.randint(0, 4)):
                    number = rand.randrange(rand.choice((4, 20, 100, 1024)))
                    wanted += [()] * (number + 1 - len(wanted))
                    wanted[number] = rand.choice(((), (), (1,), (None, 2), ("x",) * 8))
                while wanted and not wanted[-1]:
                    wanted.pop()
                if not self.save(tuple(wanted), [rand.randint(0, 3) for _ in range(rand.randint(0, 3))]):
                    break


class FullTest(StoreCase):
    def test_at_each_place(self):
        """There are fewer and fewer places for five pages and three index blocks."""
        wanted = ((1,), (2,), (3,), (4,), (5,))
        for places in range(8):
            self.begin(self.low + places)
            set_pages(self.memory, wanted)
            self.store.begin(self.memory, ("x",))
            if places < 5:
                self.assertEqual(self.store.step(places), 5 - places)
                self.assertEqual([self.store.free(), self.store.step(0)], [[], 5 - places])
                self.full(lambda: self.store.step(1))
            else:
                self.assertEqual(self.store.step(5), 0)
                self.assertEqual(self.store.step(7), 0)
                self.full(self.store.finish)
            self.given_up(places)
            self.full_once_more(places, wanted)
        self.begin(self.low + 8)
        self.assertTrue(self.save(wanted))

    def given_up(self, places):
        """The snapshot is given up and the memory thawed; all places are free again."""
        self.assertFalse(self.store.is_open())
        self.assertRaises(Idle, self.store.step, 1)
        self.assertRaises(Idle, self.store.finish)
        self.assertRaises(Idle, self.memory.thaw)
        self.assertEqual([self.store.newest(), self.store.many(), len(self.store.free())], [0, 0, places])
        self.assertEqual(self.memory.changed(), [0, 1, 2, 3, 4])

    def full_once_more(self, places, wanted):
        """As before, then a smaller snapshot that fits."""
        self.assertFalse(self.save(wanted))
        if places > 0:
            self.assertTrue(self.save(((7,),)))
        self.assertTrue(self.save(((7,),) if places > 0 else ()))

    def test_beside_an_older_root(self):
        self.begin(self.low + 6)
        self.assertTrue(self.save(((1,), (2,))))
        self.assertEqual(self.disk.loose(), [])
        set_pages(self.memory, ((3,), (4,), (5,)))
        self.store.begin(self.memory, ())
        self.assertEqual(self.store.step(3), 0)
        self.full(self.store.finish)
        self.assertEqual([all_pages(self.store), self.store.free(), self.store.facts()],
                         [((1,), (2,)), [6, 7, 8], (1, "f", None)])
        self.assertEqual(self.memory.changed(), [0, 1, 2])
        self.assertTrue(self.save(((3,), (4,))))
        self.assertEqual([self.store.free(), self.store.newest()], [[3, 4, 5], 2])

    def test_the_root_needs_no_place(self):
        self.begin(self.low + 3)
        self.assertTrue(self.save(((1,), (2,))))
        self.assertEqual(self.store.free(), [])
        self.assertTrue(self.save(((1,), (2,))))
        self.assertTrue(self.save(((1,),)))
        self.assertEqual(self.store.free(), [4, 5])
        self.assertTrue(self.save(((1,), (2,))))
        self.assertFalse(self.save(((3,), (2,))))
        self.assertTrue(self.save(()))
        self.assertEqual(self.store.free(), [3, 4, 5])

    def test_writes_before_it_is_full(self):
        self.begin(self.low + 2)
        set_pages(self.memory, ((1,), (2,), (3,)))
        self.store.begin(self.memory, ())
        self.disk.done = []
        self.full(lambda: self.store.step(3))
        self.assertEqual(self.disk.done, [(3, (1,)), (4, (2,))])


class CrashTest(StoreCase):
    """A failure at every write and barrier: the store shows the older or the newer root, whole."""

    versions = (((1,), (2,), (), (4,)), ((1,), (), (3,), (4,), (5,)), ((6,), (), (), (), (5,), (7,)), ((6,),))

    def test_every_failure(self):
        for first, version in enumerate(self.versions):
            for steps in ((), (1, 0, 1)):
                many = 0
                while self.fails_at(first, version, steps, many):
                    many += 1
                self.assertGreater(many, 2)

    def fails_at(self, first, version, steps, many):
        """Saves a version beside the one before it, with a failure; returns whether it came."""
        self.begin(40)
        before = self.versions[first - 1] if first else ()
        self.save(before)
        older = self.store.newest()
        set_pages(self.memory, version)
        self.disk.fail_after(many)
        failed = True
        try:
            self.store.begin(self.memory, ("new",))
            for count in steps:
                self.store.step(count)
            self.store.finish()
            failed = False
        except Stopped:
            pass
        loose = len(self.disk.loose())
        for kept in itertools.chain(*[itertools.combinations(range(loose), size) for size in range(5)]):
            disk = copy.deepcopy(self.disk)
            disk.crash(list(kept))
            self.shows(disk, older, before, version)
            if not failed:
                self.assertEqual(Store(disk, self.low, 40).newest(), older + 1)
        return failed

    def test_make_store_fails(self):
        for many, kept, there in ((0, [], False), (1, [], False), (1, [0], True), (2, [], True)):
            disk = Disk(5)
            disk.fail_after(many)
            try:
                make_store(disk, 2, 5, ("x",))
                self.assertEqual(many, 2)
            except Stopped:
                self.assertLess(many, 2)
            disk.crash(kept)
            if there:
                self.assertEqual(Store(disk, 2, 5).facts(), ("x",))
            else:
                self.assertRaises(NoRoot, Store, disk, 2, 5)

    def shows(self, disk, older, before, version):
        store = Store(disk, self.low, 40)
        if store.newest() == older:
            self.assertEqual([all_pages(store), store.facts()], [tuple(before), (1, "f", None)])
        else:
            self.assertEqual([store.newest(), all_pages(store), store.facts()],
                             [older + 1, tuple(version), ("new",)])


if __name__ == "__main__":
    unittest.main()
