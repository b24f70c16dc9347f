"""Runs of programs made at random, against the second way to run them of oracle.py."""

import collections
import random
import unittest

from oracle import OracleRun, Refusal
from programs import SoundMaker
from trees import as_lists

from lastingrun.check import faults
from lastingrun.errors import Refused
from lastingrun.plain import Run

PORTS = ("in", "p", "out", "faults")


class RandomRunTest(unittest.TestCase):
    def test_runs_and_changes(self):
        self.met = collections.Counter()
        for seed in range(250):
            self.seed = seed
            self.look(random.Random(seed))
        # Most of what can happen has happened.
        for word in ("turn", "no turn", "held", "record", "frame", "spawned", "unlabelled", "no label", "change"):
            self.assertGreater(self.met[word], 10, word)

    def look(self, rand):
        self.maker = SoundMaker(rand)
        program = self.maker.program()
        self.assertEqual(faults(program), [])
        run = Run(as_lists(program) if rand.random() < 0.5 else program)
        oracle = OracleRun(program)
        for _ in range(25):
            for _ in range(rand.randint(0, 6)):
                port, value = rand.choice(PORTS[:3]), rand.choice((0, 1, 2, -3, 10 ** 12, -10 ** 12))
                run.give(port, value)
                oracle.give(port, value)
            self.compare(run, oracle)
            turned = oracle.turn()
            self.assertEqual(run.turn(), turned, self.seed)
            self.met["turn" if turned else "no turn"] += 1
            if rand.random() < 0.2:
                program = self.change(rand, run, oracle, program)
        self.compare(run, oracle)

    def compare(self, run, oracle):
        self.assertEqual(run.able(), oracle.able(), self.seed)
        picture = run.picture()
        self.assertEqual(picture, oracle.picture(), self.seed)
        for port in PORTS:
            self.assertEqual(run.outputs(port), oracle.outputs(port), self.seed)
        for number, frames in picture[2]:
            self.met["spawned"] += number > 0
            self.met["frame"] += len(frames) - 1
            self.met["held"] += sum(1 for frame in frames if frame[3])
        self.met["record"] += len(picture[4])

    def edited(self, rand, program):
        functions = list(program)
        roll = rand.random()
        if roll < 0.6:
            functions = [self.maker.edited(function) for function in functions]
        elif roll < 0.7:
            at = rand.randrange(len(functions))
            self.maker.counts = {name: len(parameters) for name, parameters, _ in functions}
            functions[at] = self.maker.function(functions[at][0])
        if rand.random() < 0.3:
            rand.shuffle(functions)
        return tuple(functions)

    def change(self, rand, run, oracle, program):
        new = self.edited(rand, program)
        if faults(new):
            return program
        got = wanted = ("change",)
        try:
            run.change(as_lists(new) if rand.random() < 0.5 else new)
        except Refused as error:
            got = (error.task, error.depth, error.word)
        try:
            oracle.change(new)
        except Refusal as refusal:
            wanted = refusal.args
        self.assertEqual(got, wanted, self.seed)
        self.met[got[-1]] += new != program
        self.assertEqual(run.program(), new if got == ("change",) else program)
        return run.program()


if __name__ == "__main__":
    unittest.main()
