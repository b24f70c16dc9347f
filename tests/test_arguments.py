"""The names of all arguments as the document writes them, and lists for tuples."""

import importlib
import inspect
import unittest

from trees import as_lists

from lastingrun.check import faults
from lastingrun.disk import disk_of
from lastingrun.heap import Heap
from lastingrun.live import live
from lastingrun.log import Log
from lastingrun.machine import Machine
from lastingrun.memory import Memory
from lastingrun.plain import Run
from lastingrun.store import Store, make_store
from lastingrun.text import read, write

RUN = {
    "give": "port, value", "given": "port", "turn": "", "turns": "", "outputs": "port", "sent": "port",
    "forget": "port, number", "able": "", "program": "", "changes": "", "picture": "", "change": "program",
}

FUNCTIONS = {
    "text": {"read": "text", "write": "program"},
    "check": {"faults": "program"},
    "live": {"live": "program, function, number, wait=None"},
    "collect": {"reachable": "heap, roots"},
    "disk": {"disk_of": "image"},
    "store": {"make_store": "disk, low, high, facts"},
    "host": {"start": "disk, text", "recover": "disk"},
    "audit": {
        "audit": "disk", "replayed": "text, history, turns", "explains": "text, history, turns, seen",
    },
    "sheet": {"answers": "text, size=200"},
}

CLASSES = {
    ("plain", "Run"): {"__init__": "program", **RUN},
    ("memory", "Memory"): {
        "__init__": "pages=()", "get": "cell", "put": "cell, atom", "many": "", "page": "number", "changed": "",
        "freeze": "", "frozen": "number", "frozen_many": "", "settle": "", "thaw": "",
    },
    ("heap", "Heap"): {
        "__init__": "memory", "make": "kind, atoms", "kind": "ref", "atoms": "ref", "get": "ref, place",
        "put": "ref, place, atom", "free": "ref", "refs": "",
    },
    ("collect", "Collector"): {"__init__": "heap", "begin": "roots", "busy": "", "step": "many=1"},
    ("machine", "Machine"): {
        "__init__": "memory, program=None", **RUN, "memory": "", "collect": "many=None", "records": "",
    },
    ("disk", "Disk"): {
        "__init__": "size", "read": "place", "write": "place, block", "size": "", "writes": "", "barrier": "",
        "loose": "", "fail_after": "many", "crash": "kept", "image": "",
    },
    ("log", "Log"): {
        "__init__": "disk, first, count, block=0, record=0, floor=0", "append": "record", "flush": "",
        "records": "number", "many": "", "safe": "", "epoch": "", "next_block": "", "cut": "block, record",
    },
    ("store", "Store"): {
        "__init__": "disk, low, high", "newest": "", "facts": "", "many": "", "page": "number",
        "begin": "memory, facts", "step": "count", "finish": "", "is_open": "", "free": "",
    },
    ("host", "Host"): {
        "accept": "port, number, value", "change": "text", "run": "many", "turns": "", "commit": "", "fixed": "",
        "confirmed": "port", "outbox": "port", "took": "port, number", "snapshot": "many=None",
        "collect": "many=None", "records": "", "picture": "", "able": "", "text": "",
    },
}

PROGRAM = read("func main() let r = new(a: f(1), b: none) while 1 here top r.a = receive in end end func f(x) return x end")


def signature(function):
    names = list(inspect.signature(function).parameters.values())
    if names and names[0].name == "self":
        names = names[1:]
    return ", ".join(str(name) for name in names)


class NameTest(unittest.TestCase):
    def test_functions(self):
        for module, wanted in FUNCTIONS.items():
            for name, names in wanted.items():
                function = getattr(importlib.import_module(f"lastingrun.{module}"), name)
                self.assertEqual(signature(function), names, name)
                self.assertEqual(function.__module__, f"lastingrun.{module}")

    def test_classes(self):
        for (module, word), wanted in CLASSES.items():
            found = getattr(importlib.import_module(f"lastingrun.{module}"), word)
            self.assertEqual(found.__module__, f"lastingrun.{module}")
            for name, names in wanted.items():
                self.assertEqual(signature(vars(found)[name]), names, (word, name))


class ListTest(unittest.TestCase):
    """Lists stand for tuples at any depth; what is handed over may be changed afterwards."""

    def test_programs(self):
        tree = as_lists(PROGRAM)
        self.assertEqual([write(tree), faults(tree), live(tree, "main", 1)], [write(PROGRAM), [], ["r"]])
        runs = [Run(tree), Machine(Memory(), tree)]
        for run in runs:
            run.change(tree)
        tree[0][2].clear()
        tree.clear()
        for run in runs:
            self.assertEqual([run.program(), run.turn(), run.changes()], [PROGRAM, True, 1])

    def test_blocks(self):
        image = [["root", 0, None, 0, 0, "f"], [], ["log", 0, 1, 0, 1, 1, "a"], []]
        disk = disk_of(image)
        image[2][6] = "b"
        log = Log(disk, 2, 2)
        self.assertEqual([Store(disk, 4, 4).facts(), log.records(0), type(log.records(0)[0])], [("f",), [("a",)], tuple])
        row = ["c", None]
        log.append(row)
        row.append(1)
        self.assertEqual(log.records(1), [("c", None)])

    def test_facts_and_pages(self):
        disk = disk_of([[]] * 6)
        facts = ["a", 1]
        make_store(disk, 2, 6, facts)
        facts.append(2)
        store = Store(disk, 2, 6)
        page = [1, None, "x"]
        memory = Memory([page])
        page[0] = 2
        self.assertEqual([store.facts(), memory.page(0), disk.read(0)],
                         [("a", 1), (1, None, "x"), ("root", 0, None, 0, 0, "a", 1)])
        atoms = [5]
        heap = Heap(Memory())
        heap.make("row", atoms)
        atoms[0] = 6
        self.assertEqual(heap.atoms("@0"), (5,))


if __name__ == "__main__":
    unittest.main()
