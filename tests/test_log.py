import itertools
import random
import unittest

from lastingrun.disk import Disk, disk_of
from lastingrun.errors import Full, Gone, NoCut, Stopped
from lastingrun.limits import WIDTH
from lastingrun.log import Log


def small(*numbers):
    return [(number,) for number in numbers]


def long(number):
    return (number, "a", None, -1, 10 ** 30, "", "@0", number)


def append_all(log, records):
    return [log.append(record) for record in records]


def written(log, records):
    append_all(log, records)
    log.flush()


def state(log):
    return (log.many(), log.safe(), log.epoch(), log.next_block())


class LogCase(unittest.TestCase):
    def gone(self, log, *numbers):
        for number in numbers:
            with self.assertRaises(Gone) as caught:
                log.records(number)
            self.assertEqual(caught.exception.number, number)

    def no_cut(self, log, record, *blocks):
        for block in blocks:
            before = state(log), log.records(log.safe())
            with self.assertRaises(NoCut) as caught:
                log.cut(block, record)
            self.assertEqual(caught.exception.block, block)
            self.assertEqual((state(log), log.records(log.safe())), before)


class ExampleTest(LogCase):
    def test_document(self):
        disk = Disk(6)
        log = Log(disk, 2, 4)
        self.assertEqual(
            [log.append(("in", 5)), log.append(("x",)), log.flush(), log.append(("y",)), log.safe(), log.many(),
             disk.read(2)],
            [0, 1, None, 2, 2, 3, ("log", 0, 1, 0, 2, 2, "in", 5, 1, "x")])
        self.assertEqual([Log(disk, 2, 4).records(0), Log(disk, 2, 4).epoch()], [[("in", 5), ("x",)], 2])
        self.assertEqual([log.next_block(), log.cut(1, 2), log.records(2)], [1, None, [("y",)]])
        self.gone(log, 1)


class WriteTest(LogCase):
    def test_a_new_log(self):
        disk = Disk(5)
        log = Log(disk=disk, first=1, count=4, block=0, record=0, floor=0)
        self.assertEqual([state(log), log.records(0)], [(0, 0, 1, 0), []])
        self.gone(log, -1, 1)
        self.assertEqual([disk.writes(), disk.loose()], [0, []])

    def test_records_of_one_atom(self):
        # 19 ATOMs are left in a block: nine RECORDs of one ATOM need 18 of them.
        disk = Disk(4)
        log = Log(disk, 0, 4)
        written(log, small(*range(9)))
        self.assertEqual([disk.writes(), state(log)], [1, (9, 9, 1, 1)])
        self.assertEqual(disk.read(0), ("log", 0, 1, 0, 9, *itertools.chain(*[(1, number) for number in range(9)])))
        written(log, small(*range(10)))
        self.assertEqual([disk.writes(), state(log)], [3, (19, 19, 1, 3)])
        self.assertEqual(disk.read(2), ("log", 2, 1, 18, 1, 1, 9))
        self.assertEqual(Log(disk, 0, 4).records(0), small(*range(9), *range(10)))

    def test_records_of_eight_atoms(self):
        disk = Disk(4)
        log = Log(disk, 0, 4)
        written(log, [long(1), long(2)])
        self.assertEqual([disk.writes(), len(disk.read(0))], [1, 5 + 18])
        written(log, [long(1), long(2), (1,)])
        self.assertEqual([disk.writes(), disk.read(2)], [3, ("log", 2, 1, 4, 1, 1, 1)])
        self.assertEqual(Log(disk, 0, 4).records(0), [long(1), long(2)] * 2 + [(1,)])

    def test_a_block_that_is_full_exactly(self):
        disk = Disk(4)
        log = Log(disk, 0, 4)
        # 9 + 8 + 2 are 19.
        written(log, [long(1), (1, 2, 3, 4, 5, 6, 7), ("x",)])
        self.assertEqual([disk.writes(), len(disk.read(0))], [1, WIDTH])
        # 9 + 8 + 3 are one too many.
        written(log, [long(1), (1, 2, 3, 4, 5, 6, 7), ("x", "y")])
        self.assertEqual([disk.writes(), len(disk.read(1)), disk.read(2)],
                         [3, WIDTH - 2, ("log", 2, 1, 5, 1, 2, "x", "y")])

    def test_a_later_smaller_record_does_not_go_back(self):
        disk = Disk(4)
        log = Log(disk, 0, 4)
        written(log, [long(1), (1,), long(2), (2,)])
        self.assertEqual([row[4] for row in disk.image()[:2]], [2, 2])
        self.assertEqual(Log(disk, 0, 4).records(1), [(1,), long(2), (2,)])

    def test_each_flush_begins_a_block(self):
        disk = Disk(6)
        log = Log(disk, 0, 6)
        for number in range(3):
            written(log, small(number))
        self.assertEqual(disk.image()[:4], (("log", 0, 1, 0, 1, 1, 0), ("log", 1, 1, 1, 1, 1, 1),
                                            ("log", 2, 1, 2, 1, 1, 2), ()))

    def test_a_flush_of_nothing(self):
        disk = Disk(4)
        log = Log(disk, 0, 4)
        written(log, small(1))
        disk.fail_after(0)
        before = disk.image(), state(log)
        # No write and no barrier, for both would fail.
        self.assertIsNone(log.flush())
        self.assertEqual((disk.image(), state(log)), before)
        Log(disk, 0, 4).flush()

    def test_a_flush_ends_with_a_barrier(self):
        disk = Disk(4)
        log = Log(disk, 0, 4)
        append_all(log, small(*range(10)))
        self.assertEqual([disk.writes(), log.safe(), log.many()], [0, 0, 10])
        log.flush()
        self.assertEqual([disk.writes(), disk.loose(), log.safe()], [2, [], 10])

    def test_what_is_handed_over_is_copied(self):
        disk = Disk(3)
        log = Log(disk, 0, 3)
        row = ["a", 1]
        self.assertEqual(log.append(record=row), 0)
        row[0] = "b"
        self.assertEqual(log.records(number=0), [("a", 1)])
        log.records(0).append("x")
        log.flush()
        row[1] = 2
        self.assertEqual([log.records(0), Log(disk, 0, 3).records(0)], [[("a", 1)]] * 2)

    def test_a_ring_that_goes_round(self):
        disk = Disk(5)
        log = Log(disk, 1, 3)
        everything = []
        for number in range(20):
            block, record = log.next_block(), log.safe()
            everything.append((number, "x"))
            written(log, [(number, "x")])
            self.assertEqual(disk.read(1 + number % 3), ("log", number, 1, number, 1, 2, number, "x"))
            again = Log(disk, 1, 3, block, record)
            self.assertEqual([again.records(record), state(again)], [[(number, "x")], (number + 1, number + 1, 2,
                                                                                   number + 1)])
            if number >= 1:
                log.cut(block, record)
                self.gone(log, record - 1)
                self.assertEqual(log.records(record), everything[record:])
        self.assertEqual([disk.read(0), disk.read(4)], [(), ()])


class FullTest(LogCase):
    def test_one_place_too_few(self):
        for count in (1, 2, 3, 5):
            disk = Disk(count + 2)
            log = Log(disk, 1, count)
            written(log, small(*range(9 * (count - 1))))
            append_all(log, small(*range(10)))
            before = disk.image(), disk.writes(), state(log), log.records(0)
            disk.fail_after(0)
            for _ in range(2):
                with self.assertRaises(Full) as caught:
                    log.flush()
                self.assertEqual(caught.exception.count, count)
                self.assertEqual((disk.image(), disk.writes(), state(log), log.records(0)), before)
            self.gone(log, -1, log.many() + 1)

    def test_all_places(self):
        disk = Disk(4)
        log = Log(disk, 0, 4)
        written(log, small(*range(36)))
        self.assertEqual([state(log), Log(disk, 0, 4).records(0)], [(36, 36, 1, 4), small(*range(36))])
        log.append((1,))
        with self.assertRaises(Full) as caught:
            log.flush()
        self.assertEqual(caught.exception.count, 4)
        # A cut frees them, as many as it says.
        log.cut(0, 0)
        self.assertRaises(Full, log.flush)
        log.cut(1, 9)
        log.flush()
        self.assertEqual(disk.read(0), ("log", 4, 1, 36, 1, 1, 1))
        log.append((2,))
        self.assertRaises(Full, log.flush)
        log.cut(5, 37)
        log.flush()
        self.assertEqual([disk.read(1), log.records(37)], [("log", 5, 1, 37, 1, 1, 2), [(2,)]])

    def test_places_of_a_log_that_was_opened_again(self):
        disk = Disk(3)
        written(Log(disk, 0, 3), small(*range(18)))
        log = Log(disk, 0, 3)
        append_all(log, small(*range(10)))
        self.assertRaises(Full, log.flush)
        log = Log(disk, 0, 3, 1, 9)
        append_all(log, small(*range(10)))
        log.flush()
        self.assertEqual([row[1] for row in disk.image()], [3, 1, 2])


class CutTest(LogCase):
    def test_bounds(self):
        disk = Disk(8)
        log = Log(disk, 0, 8)
        places = []
        for number in range(4):
            places.append((log.next_block(), log.safe()))
            written(log, small(*range(10)))
        self.no_cut(log, 0, -1, 9, 10, 100)
        log.cut(*places[1])
        self.no_cut(log, 0, 1, 0)
        self.gone(log, 9)
        log.cut(block=places[1][0], record=places[1][1])
        log.cut(log.next_block(), log.safe())
        self.no_cut(log, 30, 7, 9)
        self.assertEqual([log.records(40), state(log)], [[], (40, 40, 1, 8)])
        self.gone(log, 39, 41)

    def test_below_the_opening(self):
        disk = Disk(8)
        first = Log(disk, 0, 8)
        for number in range(4):
            written(first, small(number))
        log = Log(disk, 0, 8, 2, 2)
        self.no_cut(log, 0, 1, 0, 5)
        log.cut(2, 2)
        log.cut(3, 3)
        self.assertEqual(log.records(3), [(3,)])

    def test_with_records_in_memory(self):
        disk = Disk(3)
        log = Log(disk, 0, 3)
        written(log, small(1))
        append_all(log, small(2, 3))
        log.cut(1, 1)
        self.assertEqual([log.records(1), state(log)], [small(2, 3), (3, 1, 1, 1)])
        self.gone(log, 0, 4)
        log.flush()
        self.assertEqual(Log(disk, 0, 3, 1, 1).records(1), small(2, 3))


class OpenTest(LogCase):
    def disk_with(self, *blocks):
        return disk_of(blocks)

    def opened(self, blocks, wanted, block=0, record=0, floor=0, epoch=None):
        """Looks at what is read from these blocks, a whole ring."""
        log = Log(disk_of(blocks), 0, len(blocks), block, record, floor)
        self.assertEqual(log.records(record), wanted, blocks)
        if epoch is not None:
            self.assertEqual(log.epoch(), epoch, blocks)
        return log

    def test_at_a_cut(self):
        disk = Disk(4)
        log = Log(disk, 0, 4)
        for number in range(3):
            written(log, small(number))
        for number in range(4):
            again = Log(disk, 0, 4, number, number)
            self.assertEqual([again.records(number), state(again)], [small(*range(number, 3)), (3, 3, 2, 3)])
            self.gone(again, number - 1, 4)

    def test_gaps_in_the_numbers(self):
        a, b, c = ("log", 0, 1, 0, 1, 1, "a"), ("log", 1, 1, 1, 1, 1, "b"), ("log", 2, 1, 2, 1, 1, "c")
        self.opened((a, b, c), [("a",), ("b",), ("c",)], epoch=2)
        self.opened((a, (), c), [("a",)], epoch=2)
        self.opened(((), b, c), [], epoch=2)
        self.opened((a, ("log", 4, 1, 1, 1, 1, "b"), c), [("a",)], epoch=2)
        self.opened((a, c, b), [("a",)], epoch=2)
        self.opened((b, a, c), [], epoch=2)
        # A block that stands where it stood a round before.
        self.opened((("log", 3, 1, 0, 1, 1, "a"), b, c), [], epoch=2)
        self.opened((("log", 3, 1, 3, 1, 1, "d"), b, c), [("b",), ("c",), ("d",)], 1, 1)
        self.opened((a, b, c), [("c",)], 2, 2)
        self.opened((a, b, c), [], 3, 3)

    def test_gaps_in_the_records(self):
        a, c = ("log", 0, 1, 0, 1, 1, "a"), ("log", 2, 1, 2, 1, 1, "c")
        self.opened((a, ("log", 1, 1, 2, 1, 1, "b"), c), [("a",)])
        self.opened((a, ("log", 1, 1, 0, 1, 1, "b"), c), [("a",)])
        self.opened((a, ("log", 1, 1, 1, 2, 1, "b", 1, "x"), c), [("a",), ("b",), ("x",)])
        self.opened((a, ("log", 1, 1, 1, 0), ("log", 2, 1, 1, 1, 1, "c")), [("a",), ("c",)])
        self.opened((a, c, c), [], 0, 1)
        self.opened((("log", 0, 1, 7, 1, 1, "a"),), [("a",)], 0, 7)

    def test_epochs(self):
        def ring(*epochs):
            return tuple([("log", at, epoch, at, 1, 1, at) for at, epoch in enumerate(epochs)])

        self.opened(ring(1, 1, 2, 2), small(0, 1, 2, 3), epoch=3)
        self.opened(ring(1, 3, 2, 3), small(0, 1), epoch=4)
        self.opened(ring(0, 0, 0), small(0, 1, 2), epoch=1)
        self.opened(ring(5, 1, 1), small(0), epoch=6)
        self.opened(ring(1, 5, 7), small(0, 1, 2), floor=1, epoch=8)
        self.opened(ring(1, 5, 7), [], floor=2, epoch=8)
        self.opened(ring(4, 3, 7), small(0), floor=4, epoch=8)
        self.opened(ring(4, 3), [], floor=9, epoch=10)
        self.opened(((), ()), [], floor=3, epoch=4)

    def test_the_epoch_of_blocks_that_are_not_read(self):
        a = ("log", 0, 1, 0, 1, 1, "a")
        self.opened((a, (), ("log", 2, 6, 2, 1, 1, "c")), [("a",)], epoch=7)
        # In other places, and of other rounds.
        self.opened((a, ("log", 9, 8, 0, 0), ()), [("a",)], epoch=9)
        self.opened((a, (), ("log", 0, 5, 3, 1, 1, "c")), [("a",)], epoch=6)
        # Not of this form.
        self.opened((a, ("log", 1, 8, 1, 1, 1), ()), [("a",)], epoch=2)
        self.opened((a, ("root", 1, 8, 1, 0), ()), [("a",)], epoch=2)
        for number in (-1, "1", None):
            self.opened((a, ("log", number, 8, 1, 0), ()), [("a",)], epoch=2)
            self.opened((a, ("log", 1, 8, number, 0), ()), [("a",)], epoch=2)
        # Not in the ring.
        disk = disk_of((("log", 0, 9, 0, 0), a, (), ("log", 1, 9, 0, 0)))
        self.assertEqual([Log(disk, 1, 2).epoch(), Log(disk, 1, 2).records(0)], [2, [("a",)]])

    def test_forms(self):
        good = ("log", 0, 1, 0, 2, 1, "a", 2, "b", None)
        self.opened((good,), [("a",), ("b", None)], epoch=2)
        wrong = [
            (), ("log",), ("log", 0), ("log", 0, 1), ("log", 0, 1, 0), ("Log", *good[1:]), (None, *good[1:]),
            (0, *good[1:]), good[:-1], good[:-2], good[:-3], (*good, 1), (*good, 1, "c"), (*good, None),
            ("log", 0, 1, 0, 1, 1, "a", 2, "b", None), ("log", 0, 1, 0, 3, 1, "a", 2, "b", None),
            ("log", 0, 1, 0, 0, 1, "a"), ("log", 0, 1, 0, 1, 0), ("log", 0, 1, 0, 1),
            ("log", 0, 1, 0, 1, -1), ("log", 0, 1, 0, 1, "1", "a"), ("log", 0, 1, 0, 1, None, "a"),
            ("log", 0, 1, 0, 1, 9, 1, 2, 3, 4, 5, 6, 7, 8, 9), ("log", 0, 1, 0, 2, 1, "a", 0),
            ("log", 0, 1, 0, 1, 3, "a", "b"), ("log", 0, 1, 0, 1, 1, "a", "b"),
        ]
        for place in range(1, 5):
            for atom in (-1, "0", "1", None, ""):
                wrong.append((*good[:place], atom, *good[place + 1:]))
        for block in wrong:
            log = self.opened((block, ("log", 1, 1, 2, 0)), [], epoch=2)
            self.assertEqual(state(log), (0, 0, 2, 0))
            self.opened((block, ()), [], floor=4, epoch=5)
        self.opened((("log", 0, 1, 0, 0), ("log", 1, 3, 0, 1, 8, 1, 2, 3, 4, 5, 6, 7, None)),
                    [(1, 2, 3, 4, 5, 6, 7, None)], epoch=4)

    def test_nothing_is_written(self):
        disk = disk_of((("log", 0, 1, 0, 1, 1, "a"), ()))
        disk.fail_after(0)
        log = Log(disk, 0, 2)
        self.assertEqual([log.append(("b",)), disk.loose(), disk.writes()], [1, [], 0])


class CrashTest(LogCase):
    def test_the_later_of_two_blocks_survives(self):
        disk = Disk(4)
        log = Log(disk, 0, 4)
        append_all(log, small(*range(12)))
        disk.fail_after(2)
        self.assertRaises(Stopped, log.flush)
        self.assertEqual(len(disk.loose()), 2)
        disk.crash([1])
        again = Log(disk, 0, 4)
        self.assertEqual([again.records(0), state(again)], [[], (0, 0, 2, 0)])
        # The first block is written once more, as long as before; the second one is never read behind it.
        written(again, [(100 + number,) for number in range(9)])
        last = Log(disk, 0, 4)
        self.assertEqual([last.records(0), state(last)], [[(100 + number,) for number in range(9)], (9, 9, 3, 1)])
        written(last, small(1))
        self.assertEqual(Log(disk, 0, 4).records(9), small(1))

    def test_every_subset(self):
        records = [long(number) for number in range(7)]
        for many in range(5):
            for kept in [kept for size in range(5) for kept in itertools.combinations(range(4), size)]:
                disk = Disk(8)
                log = Log(disk, 1, 7)
                written(log, records[:2])
                disk.fail_after(many)
                append_all(log, records)
                try:
                    log.flush()
                except Stopped:
                    self.assertLess(many, 5)
                if kept and kept[-1] >= len(disk.loose()):
                    continue
                disk.crash(list(kept))
                whole = 0
                while whole in kept:
                    whole += 1
                again = Log(disk, 1, 7)
                wanted = (records[:2] + records)[:min(9, 2 + 2 * whole)]
                self.assertEqual(again.records(0), wanted)
                self.assertEqual(again.safe(), len(wanted))
                written(again, [("new",), ("newer",)])
                self.assertEqual(Log(disk, 1, 7).records(0), wanted + [("new",), ("newer",)])

    def test_random(self):
        """Whatever crashes come: what is read is a prefix of what was appended, with all safe RECORDs."""
        for seed in range(300):
            self.seed = seed
            self.look(random.Random(seed))

    def look(self, rand):
        count = rand.randint(1, 6)
        disk = Disk(count + 1)
        block, record, floor = 0, 0, 0
        log = Log(disk, 1, count)
        appended, safe, number = [], 0, 0
        for _ in range(40):
            roll = rand.random()
            if roll < 0.5:
                for _ in range(rand.randint(1, 5)):
                    number += 1
                    appended.append((number, *range(rand.randint(0, 7))))
                    self.assertEqual(log.append(appended[-1]), len(appended) - 1)
            elif roll < 0.75:
                place = log.next_block(), log.safe()
                if rand.random() < 0.3:
                    disk.fail_after(rand.randint(0, 4))
                try:
                    log.flush()
                    safe = len(appended)
                    disk.fail_after(10 ** 9)
                    if rand.random() < 0.5:
                        place = log.next_block(), log.safe()
                except Full:
                    place = log.next_block(), log.safe()
                except Stopped:
                    place = None
                if place is None:
                    log = self.crash(rand, disk, count, (block, record, floor), appended, safe)
                    safe = len(appended)
                elif rand.random() < 0.7:
                    block, record = place
                    floor = log.epoch()
                    log.cut(block, record)
            elif roll < 0.85:
                log = self.crash(rand, disk, count, (block, record, floor), appended, safe)
                safe = len(appended)
            self.assertEqual([log.records(record), log.many(), log.safe()],
                             [appended[record:], len(appended), safe], self.seed)

    def crash(self, rand, disk, count, place, appended, safe):
        many = len(disk.loose())
        disk.crash([index for index in range(many) if rand.random() < 0.5])
        log = Log(disk, 1, count, *place)
        found = appended[:place[1]] + log.records(place[1])
        self.assertEqual(found, appended[:len(found)], self.seed)
        self.assertGreaterEqual(len(found), safe, self.seed)
        del appended[len(found):]
        return log


if __name__ == "__main__":
    unittest.main()
