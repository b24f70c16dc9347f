import itertools
import random
import unittest

from lastingrun.disk import Disk, disk_of
from lastingrun.errors import NoBlock, NoLoose, Stopped


def state(disk):
    return (disk.image(), disk.loose(), disk.writes(), disk.size())


class ExampleTest(unittest.TestCase):
    def test_document(self):
        disk = Disk(4)
        self.assertEqual(
            [disk.write(1, ("a",)), disk.barrier(), disk.write(1, ("b",)), disk.write(2, (7,)), disk.write(1, ("c",)),
             disk.crash([0, 1])], [None] * 6)
        self.assertEqual([disk.image(), disk.loose(), disk.writes()], [((), ("b",), (7,), ()), [], 4])
        self.assertEqual([disk_of(disk.image()).read(1), disk.fail_after(0)], [("b",), None])
        self.assertRaises(Stopped, disk.barrier)


class BlockTest(unittest.TestCase):
    def test_sizes(self):
        self.assertEqual(state(Disk(0)), ((), [], 0, 0))
        self.assertEqual(state(Disk(1)), (((),), [], 0, 1))
        self.assertEqual(state(Disk(size=3)), (((), (), ()), [], 0, 3))

    def test_places(self):
        for size in (0, 1, 5):
            disk = Disk(size)
            for place in (-1, -size, size, size + 1, 10 ** 9, -10 ** 9):
                if not 0 <= place < size:
                    for call in (lambda: disk.read(place), lambda: disk.write(place, (1,))):
                        with self.assertRaises(NoBlock) as caught:
                            call()
                        self.assertEqual(caught.exception.place, place)
            self.assertEqual(state(disk), (((),) * size, [], 0, size))
        disk = Disk(1)
        self.assertEqual([disk.read(0), disk.write(0, (3,)), disk.read(place=0)], [(), None, (3,)])

    def test_no_block_before_anything_else(self):
        disk = Disk(2)
        disk.fail_after(1)
        self.assertRaises(NoBlock, disk.write, 2, (1,))
        self.assertRaises(NoBlock, disk.write, -1, (1,))
        disk.write(1, (1,))
        # It would fail now, and then has failed.
        for _ in range(2):
            self.assertRaises(NoBlock, disk.write, 2, (2,))
            self.assertRaises(NoBlock, disk.read, 2)
            self.assertRaises(Stopped, disk.write, 1, (2,))
        self.assertEqual(state(disk), (((), (1,)), [(1, (1,))], 1, 2))

    def test_what_is_written(self):
        disk = Disk(3)
        blocks = ((), (1,), (None, "", "@0", -5, 10 ** 40), ("x" * 100000,), tuple(range(24)))
        for block in blocks:
            disk.write(place=2, block=block)
            self.assertEqual([disk.read(2), disk.image()], [block, ((), (), block)])
        self.assertEqual(disk.loose(), [(2, block) for block in blocks])
        self.assertEqual(disk.writes(), 5)

    def test_lists_for_tuples(self):
        disk = Disk(2)
        block = [1, "a", None]
        disk.write(0, block)
        block[0] = 9
        self.assertEqual([disk.read(0), block, disk.loose()], [(1, "a", None), [9, "a", None], [(0, (1, "a", None))]])
        self.assertIs(type(disk.read(0)), tuple)
        disk.barrier()
        disk.crash([])
        self.assertEqual(disk.image(), ((1, "a", None), ()))

    def test_results_are_new(self):
        disk = Disk(1)
        disk.write(0, (1,))
        found = disk.loose()
        found.clear()
        self.assertEqual([disk.loose(), disk.loose()], [[(0, (1,))]] * 2)


class FailTest(unittest.TestCase):
    def test_at_each_place(self):
        calls = [lambda disk: disk.write(0, ("a",)), lambda disk: disk.write(1, ("b",)), lambda disk: disk.barrier(),
                 lambda disk: disk.write(0, ("c",)), lambda disk: disk.barrier(), lambda disk: disk.barrier()]
        for many in range(7):
            disk = Disk(2)
            disk.fail_after(many)
            for index, call in enumerate(calls):
                before = state(disk)
                if index < many:
                    call(disk)
                else:
                    self.assertRaises(Stopped, call, disk)
                    self.assertEqual(state(disk), before)
                    self.assertEqual([disk.read(0), disk.read(1)], list(disk.image()))
            self.assertEqual(disk.writes(), sum(1 for index in (0, 1, 3) if index < many))

    def test_reads_and_others_do_not_count(self):
        disk = Disk(2)
        disk.fail_after(1)
        for _ in range(3):
            disk.read(0)
            disk.loose()
            disk.image()
            disk.writes()
            disk.size()
            self.assertRaises(NoBlock, disk.read, 5)
        disk.write(0, (1,))
        self.assertRaises(Stopped, disk.write, 0, (2,))

    def test_a_new_one_replaces_the_old_one(self):
        disk = Disk(1)
        disk.fail_after(0)
        disk.fail_after(many=2)
        disk.write(0, (1,))
        disk.fail_after(1)
        disk.write(0, (2,))
        self.assertRaises(Stopped, disk.write, 0, (3,))
        # Also of a disk that has failed.
        disk.fail_after(1)
        disk.write(0, (4,))
        self.assertRaises(Stopped, disk.barrier)
        self.assertRaises(Stopped, disk.write, 0, (5,))
        disk.fail_after(2)
        disk.barrier()
        disk.write(0, (6,))
        self.assertRaises(Stopped, disk.barrier)
        self.assertEqual(state(disk), (((6,),), [(0, (6,))], 4, 1))

    def test_a_crash_ends_it(self):
        for many in (0, 1, 5):
            disk = Disk(1)
            disk.fail_after(many)
            disk.crash([])
            for number in range(9):
                disk.write(0, (number,))
                disk.barrier()
            self.assertEqual(disk.writes(), 9)
        disk.fail_after(0)
        self.assertRaises(Stopped, disk.barrier)
        disk.crash([])
        self.assertEqual([disk.barrier(), disk.writes()], [None, 9])


class CrashTest(unittest.TestCase):
    def disk(self):
        disk = Disk(3)
        disk.write(0, ("old",))
        disk.write(1, ("old",))
        disk.barrier()
        for place, block in ((1, ("a",)), (2, ("b",)), (1, ("c",)), (1, ())):
            disk.write(place, block)
        return disk

    def test_kept(self):
        for kept, one, two in (([], ("old",), ()), ([0], ("a",), ()), ([2], ("c",), ()), ([0, 2], ("c",), ()),
                               ([3], (), ()), ([0, 3], (), ()), ([0, 1, 2, 3], (), ("b",)), ([1], ("old",), ("b",)),
                               ((0, 1, 2), ("c",), ("b",))):
            disk = self.disk()
            self.assertEqual(disk.image(), (("old",), (), ("b",)))
            self.assertIsNone(disk.crash(kept))
            self.assertEqual(state(disk), ((("old",), one, two), [], 6, 3))
            # All of that stays for ever.
            disk.crash(kept=[])
            self.assertEqual(state(disk), ((("old",), one, two), [], 6, 3))
            disk.write(0, ("new",))
            disk.crash([0])
            self.assertEqual(state(disk), ((("new",), one, two), [], 7, 3))

    def test_no_loose(self):
        for kept, number in (([4], 4), ([-1], -1), ([-4, 0], -4), ([0, 1, 9, 12], 9), ((0, 7), 7), ([10 ** 12], 10 ** 12)):
            disk = self.disk()
            disk.fail_after(0)
            before = state(disk)
            with self.assertRaises(NoLoose) as caught:
                disk.crash(kept)
            self.assertEqual(caught.exception.number, number)
            self.assertEqual(state(disk), before)
            self.assertRaises(Stopped, disk.barrier)
            disk.fail_after(1)
            disk.barrier()
            disk.crash([])
            self.assertEqual(disk.image(), before[0])

    def test_behind_a_barrier_nothing_is_loose(self):
        disk = self.disk()
        disk.barrier()
        self.assertEqual(disk.loose(), [])
        with self.assertRaises(NoLoose) as caught:
            disk.crash([0])
        self.assertEqual(caught.exception.number, 0)
        disk.crash([])
        self.assertEqual(disk.image(), (("old",), (), ("b",)))

    def test_the_argument_stays(self):
        kept = [0, 1]
        disk = self.disk()
        disk.crash(kept)
        self.assertEqual(kept, [0, 1])

    def test_random(self):
        for seed in range(200):
            rand = random.Random(seed)
            disk = Disk(3)
            history = []
            lasting = [()] * 3
            for _ in range(30):
                roll = rand.random()
                if roll < 0.7:
                    row = (rand.randrange(3), (rand.randrange(99),))
                    disk.write(*row)
                    history.append(row)
                elif roll < 0.85:
                    disk.barrier()
                    for place, block in history:
                        lasting[place] = block
                    history = []
                else:
                    kept = [index for index in range(len(history)) if rand.random() < 0.5]
                    disk.crash(kept)
                    for index in kept:
                        lasting[history[index][0]] = history[index][1]
                    history = []
                shown = list(lasting)
                for place, block in history:
                    shown[place] = block
                self.assertEqual([disk.image(), disk.loose()], [tuple(shown), history])


class ImageTest(unittest.TestCase):
    def test_disk_of(self):
        for image in ((), ((),), ((1,), (), ("a", None))):
            disk = disk_of(image)
            self.assertEqual(state(disk), (image, [], 0, len(image)))
            disk.crash([])
            self.assertEqual(disk.image(), image)
            self.assertRaises(NoLoose, disk.crash, [0])

    def test_disk_of_lists(self):
        image = [[1, "a"], [], (2,)]
        disk = disk_of(image=image)
        image[0][0] = 9
        image.append([])
        self.assertEqual(disk.image(), ((1, "a"), (), (2,)))
        self.assertEqual([type(block) for block in disk.image()], [tuple] * 3)

    def test_an_image_is_of_its_time(self):
        disk = Disk(2)
        disk.write(0, (1,))
        image = disk.image()
        other = disk_of(image)
        disk.write(0, (2,))
        other.write(1, (3,))
        self.assertEqual([image, disk.image(), other.image()], [((1,), ()), ((2,), ()), ((1,), (3,))])

    def test_without_a_failure(self):
        disk = Disk(1)
        disk.fail_after(0)
        other = disk_of(disk.image())
        self.assertEqual([other.write(0, (1,)), other.barrier()], [None, None])


def subsets(many):
    return [list(kept) for size in range(many + 1) for kept in itertools.combinations(range(many), size)]


class SubsetTest(unittest.TestCase):
    def test_every_subset(self):
        blocks = [(0, ("a",)), (1, ("b",)), (0, ("c",)), (0, ("d",))]
        for kept in subsets(4):
            disk = Disk(2)
            for row in blocks:
                disk.write(*row)
            disk.crash(kept)
            wanted = [(), ()]
            for index in kept:
                wanted[blocks[index][0]] = blocks[index][1]
            self.assertEqual(disk.image(), tuple(wanted))


if __name__ == "__main__":
    unittest.main()
