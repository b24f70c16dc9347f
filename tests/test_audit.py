import unittest

from lastingrun.audit import audit, explains, replayed
from lastingrun.disk import Disk, disk_of
from lastingrun.errors import NoHistory
from lastingrun.host import start
from lastingrun.plain import Run
from lastingrun.text import read, write

ADDER = "func main() let total = 0 while 1 let n = receive in total = total + n send out total end end"
TEXT = write(read(ADDER))
LABELLED = "func main() while 1 here top let n = receive in send out n end end"
DOUBLE = "func main() while 1 here top let n = receive in send out n * 2 end end"


def disk_with(root=("root", 0, 18, 0, 1, 0, 0, 1, 0), other=(), size=60, **blocks):
    """A disk with these roots and, at the places b18, b19, .., these blocks."""
    image = [()] * size
    image[0] = root
    image[1] = other
    for word, block in blocks.items():
        image[int(word[1:])] = block
    return disk_of(image)


def paged(*pages, many=None):
    """A disk whose store has these pages behind one another from place 19 on, below an index block at 18."""
    disk = Disk(60)
    places = [19 + at if page else None for at, page in enumerate(pages)]
    if len(pages) == 1:
        disk.write(18, pages[0])
        disk.write(0, ("root", 0, 18, 0, 1, 0, 0, 1, 0))
    else:
        disk.write(0, ("root", 0, 18, 1, many or len(pages), 0, 0, 1, 0))
        disk.write(18, tuple(places))
        for place, page in zip(places, pages):
            if page:
                disk.write(place, page)
    disk.barrier()
    return disk


class AuditCase(unittest.TestCase):
    def found(self, disk, *wanted):
        before = disk.image(), disk.writes(), disk.loose()
        disk.fail_after(0)
        self.assertEqual(audit(disk), list(wanted))
        self.assertEqual(audit(disk=disk), list(wanted))
        self.assertEqual((disk.image(), disk.writes(), disk.loose()), before)

    def blocks(self, disk, *places):
        self.found(disk, *[("block", place) for place in places])


class ExampleTest(unittest.TestCase):
    def test_document(self):
        disk = Disk(200)
        host = start(disk, write(read(ADDER)))
        self.assertEqual((audit(disk), audit(Disk(60))), ([], [("root",)]))
        self.assertEqual(replayed(TEXT, [("in", 1, "in", 1, 5)], 2).outputs("out"), [(1, 5, 1)])
        self.assertEqual((explains(TEXT, [("in", 1, "in", 1, 5)], 2, [("out", [(1, 5)])]),
                          explains(TEXT, [("in", 1, "in", 2, 5)], 2, [])), (True, False))
        self.assertEqual(host.turns(), 0)


class RootTest(AuditCase):
    page = ("a", 0)

    def test_no_roots(self):
        wrong = [(), ("root",), ("root", 0, 18, 0), ("Root", 0, 18, 0, 1, 0, 0, 1, 0), ("root", 1, 18, 0, 1, 0, 0, 1, 0)]
        wrong += [("root", number, 18, 0, 1, 0, 0, 1, 0) for number in (-2, "0", None, 3)]
        wrong += [("root", 0, top, 0, 1, 0, 0, 1, 0) for top in ("18", "")]
        wrong += [("root", 0, 18, depth, 1, 0, 0, 1, 0) for depth in (1, -1, None, "0")]
        wrong += [("root", 0, 18, 0, many, 0, 0, 1, 0) for many in (2, 5, -1, None, "1")]
        wrong += [("root", 0, 18, 0, 1, *range(17))]
        for block in wrong:
            self.found(disk_with(block, b18=self.page), ("root",))
            self.found(disk_with(block, ("root", 1, 18, 0, 1, 0, 0, 1, 0), b18=self.page))
        self.found(disk_with(b18=self.page))

    def test_facts(self):
        for facts in ((), (0, 0, 1), (0, 0, 1, 0, 0), (0, 0, 1, -1), ("0", 0, 1, 0), (0, None, 1, 0), (0, 0, "", 0)):
            self.found(disk_with(("root", 0, 18, 0, 1, *facts), b18=self.page), ("root",))
            # Only the newest root counts.
            self.found(disk_with(("root", 2, 18, 0, 1, *facts), ("root", 1, 18, 0, 1, 0, 0, 1, 0), b18=self.page), ("root",))
            self.found(disk_with(("root", 2, 18, 0, 1, *facts), ("root", 3, 18, 0, 1, 0, 0, 1, 0), b18=self.page))
        for facts in ((0, 0, 0, 0), (5, 7, 10 ** 20, 1)):
            self.found(disk_with(("root", 0, 18, 0, 1, *facts), b18=self.page))

    def test_the_first_kind_only(self):
        self.found(disk_with(("root", 0, 5, 0, 1, 0, 0, 1)), ("root",))
        self.blocks(disk_with(("root", 0, 5, 0, 1, 0, 0, 1, 0)), 5)


class BlockTest(AuditCase):
    def top(self, place, depth, many):
        return ("root", 0, place, depth, many, 0, 0, 1, 0)

    def test_not_in_the_store(self):
        for place in (-1, -18, 0, 1, 2, 17, 60, 61, 10 ** 20):
            self.blocks(disk_with(self.top(place, 0, 1)), place)
            self.blocks(disk_with(self.top(18, 1, 2), b18=(place, 19), b19=("a", 0)), place)
        self.found(disk_with(self.top(59, 0, 1), b59=("a", 0)))

    def test_the_form_of_pages(self):
        for page in ((), (None,), ("a", 0, None), tuple(["a", 7] + [1] * 7), (None,) * 8):
            self.blocks(disk_with(b18=page), 18)
            self.blocks(disk_with(self.top(18, 1, 2), b18=(19, 20), b19=("a", 0), b20=page), 20)
        for page in (("a", 0), ("a", 6, 1, None, None, None, None, "x"), ("a", 0, "b", 0)):
            self.found(disk_with(b18=page))

    def test_the_form_of_index_blocks(self):
        for block in ((), (None,), (19, None), ("19",), (19, "x"), (19, None, None, None, 20), (19, 20, 21, 22, 23),
                      (19, "a", 20)):
            self.blocks(disk_with(self.top(18, 1, 2), b18=block, b19=("a", 0), b20=("b", 0)), 18)
        self.found(disk_with(self.top(18, 1, 2), b18=(19,), b19=("a", 0)))
        self.found(disk_with(self.top(18, 1, 4), b18=(19, None, None, 20), b19=("a", 0), b20=("b", 0)))

    def test_no_top(self):
        self.found(disk_with(self.top(None, 0, 0)), ("cell", 0))
        self.found(disk_with(self.top(None, 1, 3)), ("cell", 0))
        self.blocks(disk_with(self.top(18, 0, 0), b18=("a", 0)), 18)

    def test_pages_from_many_on(self):
        self.blocks(disk_with(self.top(18, 1, 2), b18=(19, 20, 21), b19=("a", 0), b20=("b", 0), b21=("c", 0)), 21)
        self.blocks(disk_with(self.top(18, 2, 5), b18=(19, 20, 30, 31), b19=(21,), b20=(22, 23), b21=("a", 0),
                              b22=("b", 0), b23=("c", 0), b30=(17,), b31=(16,)), 23, 30, 31)
        # A part that begins before many is looked at, and what is below it.
        self.found(disk_with(self.top(18, 2, 5), b18=(19, 20), b19=(21,), b20=(22,), b21=("a", 0), b22=("b", 0)))

    def test_used_twice(self):
        self.blocks(disk_with(self.top(18, 1, 3), b18=(19, 20, 19), b19=("a", 0), b20=("b", 0)), 19)
        self.blocks(disk_with(self.top(18, 1, 3), b18=(19, 18, 19), b19=("a", 0)), 18, 19)
        self.blocks(disk_with(self.top(18, 1, 4), b18=(19, 19, 19, 19), b19=("a", 0)), 19)

    def test_below_one_that_is_used_twice(self):
        # It is looked below where it is met first only.
        tree = {"b18": (20, 20, 21), "b20": (22, 23), "b21": (24,), "b22": ("a", 0), "b23": ("b", 0), "b24": ("c", 0)}
        self.blocks(disk_with(self.top(18, 2, 9), **tree), 20)
        tree["b20"] = (22, 22)
        self.blocks(disk_with(self.top(18, 2, 9), **tree), 20, 22)
        tree["b20"] = (22, 5)
        self.blocks(disk_with(self.top(18, 2, 9), **tree), 5, 20)
        # Met first as a page below 19, then as an index block.
        tree = {"b18": (19, 21), "b19": (21, 22), "b21": (23, 5), "b22": ("b", 0), "b23": ("c", 0)}
        self.blocks(disk_with(self.top(18, 2, 8), **tree), 21)
        # Met first as an index block.
        tree = {"b18": (21, 19), "b19": (21, 22), "b21": (23, 5), "b22": ("b", 0), "b23": ("c", 0)}
        self.blocks(disk_with(self.top(18, 2, 8), **tree), 5, 21)

    def test_below_other_faults_nothing_is_looked_at(self):
        tree = {"b18": (19, 20, 21, 30), "b19": (22, 22, 3, None), "b20": (23,), "b21": (23, "x"), "b23": ("a", 0),
                "b30": (5,)}
        self.blocks(disk_with(self.top(18, 2, 9), **tree), 19, 21, 30)

    def test_ascending(self):
        tree = {"b18": (40, 3, 25, -7), "b40": (2, 70), "b25": (30, 30), "b30": ("a", 0)}
        self.blocks(disk_with(self.top(18, 2, 16), **tree), -7, 2, 3, 30, 70)

    def test_a_ring(self):
        self.blocks(disk_with(self.top(18, 2, 16), b18=(19, 18), b19=(18, 19, 20), b20=("a", 0)), 18, 19)

    def test_blocks_before_cells(self):
        self.blocks(disk_with(self.top(18, 1, 2), b18=(19, 19), b19=(5,)), 19)

    def test_a_great_depth(self):
        many = 4 ** 30
        self.found(disk_with(self.top(None, 30, many)), ("cell", 0))
        self.blocks(disk_with(self.top(18, 30, many), b18=(19,), b19=(18,)), 18)


class CellTest(AuditCase):
    def test_objects(self):
        self.found(paged(("a", 0)))
        self.found(paged(("a", 2, None, 5, None, None, "b", 0)))
        self.found(paged(("a", 6, 1), ("b", 1, 2), (None, None, "c", 3)))
        self.found(paged(("", 0, "", 0)))

    def test_cell_zero(self):
        for page in ((None, "a", 0), (5, 0), (0,), ("@0", 0), ("@", 0), ("a",), ("a", -1), ("a", "0"), ("a", None, 1)):
            self.found(paged(page), ("cell", 0))
        self.found(paged((), ("a", 0)), ("cell", 0))

    def test_the_first_one(self):
        for cell, page in ((2, ("a", 0, 5)), (3, ("a", 0, None, "b")), (4, ("a", 1, None, None, "@4", 0, 7)),
                           (2, ("a", 0, "b", -1)), (2, ("a", 0, "b", "1", 5)), (5, ("a", 3, 1, 1, 1, 1, 1)),
                           (7, ("a", 0, "b", 2, 1, 1, None, "c"))):
            self.found(paged(page), ("cell", cell))
        self.found(paged(("a", 9, 1), (1, 2), ("b", 0), (6,)), ("cell", 24))
        self.found(paged(("a", 0, None, None, None, None, None, "b"), (None, 1)), ("cell", 7))

    def test_an_object_over_pages(self):
        self.found(paged(("a", 0, None, None, None, None, None, "b"), (1, 5)))
        self.found(paged(("a", 14), (5,), ("b", 3)))
        self.found(paged(("a", 10 ** 20), ("b",), (-1,)))

    def test_cells_before_refs(self):
        self.found(paged(("a", 1, "@9", 5)), ("cell", 3))


class RefTest(AuditCase):
    def test_no_object(self):
        for ref in ("@1", "@", "@00", "@-0", "@x", "@ 0", "@0 ", "@3", "@99", "@5"):
            self.found(paged(("a", 2, "@0", ref, "b", 1, 5)), ("ref", 3))
        for ref in ("@0", "@4", "0", "x@", 4, None, ""):
            self.found(paged(("a", 2, "@0", ref, "b", 1, 5)))

    def test_reachable_or_not(self):
        # The object at 3 is not reachable, that at 6 is.
        self.found(paged(("a", 1, "@6", "b", 1, "@99", "c", 1), ("@77",)), ("ref", 8))
        self.found(paged(("a", 1, "@6", "b", 1, "@99", "c", 1), ("@0",)))
        self.found(paged(("a", 1, "@3", "b", 1, "@6", "c", 1), ("@3",)))
        self.found(paged(("a", 1, "@3", "b", 1, "@5", "c", 1), ("@9",)), ("ref", 5))

    def test_all_of_them_ascending(self):
        self.found(paged(("a", 3, "@10", "@1", "@5", "b", 1, "@2"), (None, None, "c", 3, "@5", "@0", "@x")),
                   ("ref", 3), ("ref", 7), ("ref", 14))


class HostTest(AuditCase):
    def test_in_the_middle_of_a_collection(self):
        disk = Disk(300)
        host = start(disk, "func main() while 1 let r = new(v: receive in, n: new()) send out r.v end end")
        for number in range(1, 7):
            host.accept("in", number, 3)
        host.run(9)
        while not host.collect(1):
            host.snapshot()
            self.assertEqual(audit(disk), [])

    def test_damage(self):
        disk = Disk(300)
        start(disk, ADDER)
        image = list(disk.image())
        places = [place for place in range(18, 300) if image[place]]
        for place in places:
            other = list(image)
            other[place] = ()
            self.assertEqual(audit(disk_of(other)), [("block", place)])


class ReplayedTest(unittest.TestCase):
    def no_history(self, index, *args):
        with self.assertRaises(NoHistory) as caught:
            replayed(*args)
        self.assertEqual(caught.exception.index, index)
        self.assertIs(explains(*args, []), False)

    def test_turns(self):
        run = replayed(TEXT, [("in", 0, "in", 1, 5), ("in", 1, "in", 2, 6), ("in", 1, "in", 3, 7)], 2)
        self.assertIsInstance(run, Run)
        self.assertEqual([run.turns(), run.outputs("out"), run.given("in")], [2, [(1, 5, 0), (2, 11, 1)], 3])
        self.assertEqual(replayed(TEXT, [], 0).picture(), Run(read(ADDER)).picture())
        self.assertEqual(replayed(TEXT, [], 1).turns(), 1)
        # An event at the last turn is applied.
        self.assertEqual(replayed(TEXT, [("in", 1, "in", 1, 5)], 1).picture()[3], (("in", (5,)),))

    def test_by_name_and_lists(self):
        history = [["in", 0, "in", 1, 5], ["change", 1, TEXT]]
        run = replayed(text=TEXT, history=tuple(history), turns=1)
        self.assertEqual([run.turns(), run.changes(), history], [1, 1, [["in", 0, "in", 1, 5], ["change", 1, TEXT]]])
        self.assertIs(explains(text=TEXT, history=history, turns=1, seen=[["out", [[1, 5]]]]), True)
        self.assertIs(explains(TEXT, history, 1, (("out", ((1, 5),)),)), True)

    def test_turns_of_events(self):
        self.no_history(1, TEXT, [("in", 1, "in", 1, 5), ("in", 0, "in", 2, 5)], 2)
        self.no_history(1, TEXT, [("in", 0, "in", 1, 5), ("in", 3, "in", 2, 5)], 2)
        self.no_history(0, TEXT, [("in", 2, "in", 1, 5)], 2)
        self.no_history(0, TEXT, [("in", -1, "in", 1, 5)], 2)
        self.no_history(0, TEXT, [("in", 1, "in", 1, 5)], 0)
        self.no_history(2, TEXT, [("in", 0, "in", 1, 5), ("in", 1, "in", 2, 5), ("in", 3, "in", 3, 5)], 3)

    def test_turns_behind_the_last_event(self):
        self.no_history(0, TEXT, [], 2)
        self.no_history(1, TEXT, [("in", 1, "in", 1, 5)], 3)
        self.no_history(2, TEXT, [("in", 1, "in", 1, 5), ("in", 2, "in", 2, 5)], 4)
        self.no_history(0, "func main() end", [], 2)

    def test_inputs(self):
        for number in (2, 0, -1, 3):
            self.no_history(0, TEXT, [("in", 0, "in", number, 5)], 0)
            self.no_history(1, TEXT, [("in", 0, "p", 1, 5), ("in", 0, "in", number, 5)], 0)
        self.no_history(1, TEXT, [("in", 0, "in", 1, 5), ("in", 0, "in", 1, 5)], 0)
        self.no_history(2, TEXT, [("in", 0, "in", 1, 5), ("in", 0, "in", 2, 5), ("in", 0, "in", 4, 5)], 0)
        self.assertEqual(replayed(TEXT, [("in", 0, "p", 1, 5), ("in", 0, "in", 1, 5), ("in", 0, "p", 2, 5)], 0).given("p"),
                         2)

    def test_changes(self):
        run = replayed(LABELLED, [("in", 0, "in", 1, 3), ("change", 1, DOUBLE), ("in", 1, "in", 2, 3)], 2)
        self.assertEqual([run.outputs("out"), run.changes(), run.program()],
                         [[(1, 3, 0), (2, 6, 1)], 1, read(DOUBLE)])
        for text in ("func main(", "func main() a = 1 end", "", "func main() end", "func f() end", TEXT, "x"):
            self.no_history(0, LABELLED, [("change", 1, text)], 1)
            self.no_history(1, LABELLED, [("in", 0, "in", 1, 3), ("change", 1, text)], 1)
        self.no_history(0, LABELLED, [("change", 2, DOUBLE)], 2)

    def test_which_comes_first(self):
        self.no_history(0, TEXT, [("in", 0, "in", 2, 5), ("in", 9, "in", 1, 5), ("change", 0, "x")], 9)
        self.no_history(1, TEXT, [("in", 0, "in", 1, 5), ("change", 0, "x"), ("in", 0, "in", 7, 5)], 9)
        self.no_history(1, TEXT, [("in", 0, "in", 1, 5), ("in", 2, "in", 1, 5)], 1)


class ExplainsTest(unittest.TestCase):
    history = [("in", 0, "in", 1, 5), ("in", 0, "in", 2, 6), ("in", 0, "in", 3, 7)]

    def test_seen(self):
        good = [
            [], [("out", [])], [("out", [(1, 5)])], [("out", [(1, 5), (2, 11)])], [("out", [(1, 5), (2, 11), (3, 18)])],
            [("other", [])], [("out", [(1, 5)]), ("other", []), ("out", [(1, 5), (2, 11)])],
        ]
        wrong = [
            [("out", [(1, 5), (2, 11), (3, 18), (4, 18)])], [("out", [(1, 6)])], [("out", [(2, 11)])],
            [("out", [(1, 5), (3, 18)])], [("out", [(1, 5), (2, 12)])], [("other", [(1, 5)])],
            [("out", [(1, 5)]), ("other", [(1, 1)])], [("out", [(2, 5)])], [("out", [(0, 5), (1, 5)])],
            [("out", [(1, 5), (1, 5)])], [("out", [(2, 11), (1, 5)])],
        ]
        for seen in good:
            self.assertIs(explains(TEXT, self.history, 3, seen), True, seen)
        for seen in wrong:
            self.assertIs(explains(TEXT, self.history, 3, seen), False, seen)
        # Two turns make fewer outputs.
        self.assertIs(explains(TEXT, self.history, 2, [("out", [(1, 5), (2, 11), (3, 18)])]), False)
        self.assertIs(explains(TEXT, self.history, 2, [("out", [(1, 5), (2, 11)])]), True)

    def test_texts_that_are_no_programs(self):
        for text in ("", "x", "func main(", "func main() a = 1 end", "func f() end"):
            self.assertIs(explains(text, [], 0, []), False)
            self.assertIs(explains(text, self.history, 2, []), False)

    def test_the_arguments_stay(self):
        seen = [["out", [[1, 5]]]]
        history = [list(event) for event in self.history]
        self.assertIs(explains(TEXT, history, 1, seen), True)
        self.assertEqual([seen, history], [[["out", [[1, 5]]]], [list(event) for event in self.history]])


if __name__ == "__main__":
    unittest.main()
