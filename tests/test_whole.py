"""The guarantees over the whole program: sessions of hosts with crashes, beside plain runs without any.

Promise [1] (a), (b), (e) and (g) are looked at here, by the World around the host and by the Careful disk;
(c) and (d) also by test_machine.py and test_machine_plain.py, (e) by test_store.py, (f) by test_log.py, (g) by
test_change.py over machines.
"""

import collections
import copy
import itertools
import random
import unittest

from programs import SoundMaker
from worlds import PORTS, Careful, World, stopped

from lastingrun.audit import audit
from lastingrun.check import faults
from lastingrun.disk import disk_of
from lastingrun.errors import Full, NoOutput, Refused
from lastingrun.host import recover
from lastingrun.text import read, write

# Several tasks, records in a ring, handlers around failures, calls that wait.
SHOP = """
func main()
  let book = new(first: none, sum: 0)
  spawn count(book)
  spawn guard(7)
  while 1
    here next let n = receive in
    try
      add(book, n)
    catch e
      send p e
    end
  end
end
func add(book, n)
  here head let item = new(n: n, next: book.first)
  book.first = item
  book.sum = book.sum + item.n
  here told send out book.sum * checked(n)
end
func checked(n)
  if n < 0
    throw n
  end
  return 100 / n
end
func count(book)
  while 1
    let many = receive p
    let item = book.first
    while many and item
      item = item.next
      many = many - 1
    end
    book.first = item
    send out item and item.n or 0
  end
end
func guard(k)
  while 1
    send p k / receive out
  end
end
"""

CHANGED = SHOP.replace("send out book.sum * checked(n)", "send out book.sum * checked(n)\n  send p n").replace(
    "let item = new(n: n, next: book.first)", "let item = new(n: n, next: book.first)\n  item.n = n * 2")
REFUSED = SHOP.replace("here next let n = receive in", "here next let n = 1 + receive in")

SCRIPT = (
    ("accept", "in", 5), ("run", 3), ("commit",), ("accept", "in", 0), ("accept", "p", 1), ("run", 4), ("snapshot", 0),
    ("accept", "in", -3), ("run", 2), ("snapshot", 3), ("collect", 5), ("commit",), ("accept", "out", 2),
    ("accept", "in", 10), ("run", 5), ("snapshot", None), ("took",), ("change", CHANGED), ("run", 2), ("accept", "in", 4),
    ("accept", "in", 20), ("accept", "in", 25), ("accept", "p", 2), ("run", 3), ("commit",), ("change", REFUSED),
    ("collect", 9), ("snapshot", 4), ("run", 6), ("accept", "out", 0), ("took",), ("commit",), ("snapshot", 5),
    ("change", SHOP), ("run", 3), ("collect", None), ("snapshot", None), ("accept", "in", 50), ("run", 9), ("commit",),
)


def act(world, step, met=None):
    """Does one step of a session."""
    word, *args = step
    if word == "accept":
        world.accept(*args)
    elif word == "run":
        world.host.run(*args)
    elif word == "commit":
        world.commit()
    elif word == "snapshot":
        world.snapshot(*args)
    elif word == "collect":
        world.host.collect(*args)
    elif word == "took":
        for port in PORTS:
            for number, _ in world.host.outbox(port)[:1]:
                world.took(port, number)
    elif word == "change":
        before = world.host.picture(), world.host.text()
        try:
            world.change(*args)
        except Refused:
            assert (world.host.picture(), world.host.text()) == before


def subsets(many):
    """Which of so many loose writes are kept: every subset of up to four, otherwise some of them."""
    if many <= 4:
        return [kept for size in range(many + 1) for kept in itertools.combinations(range(many), size)]
    everything = tuple(range(many))
    return [(), everything, everything[1:], everything[:-1], everything[::2], everything[1::2], (0,), (many - 1,)]


class SessionTest(unittest.TestCase):
    def test_without_a_crash(self):
        world = World(SHOP, Careful(300))
        for step in SCRIPT:
            act(world, step)
            world.look()
            self.assertEqual(audit(world.disk), [])
        self.assertTrue(world.explained())
        self.assertGreater(len(world.seen["out"]), 4)
        self.assertGreater(len(world.seen["p"]), 2)

    def test_a_crash_at_every_write(self):
        """Behind each crash the session goes on, also behind a second crash soon after."""
        many = 0
        crashes = 0
        while True:
            world = World(SHOP, Careful(300))
            world.disk.fail_after(many)
            place = 0
            while place < len(SCRIPT) and not stopped(lambda: act(world, SCRIPT[place])):
                place += 1
            if place == len(SCRIPT):
                break
            for kept in subsets(len(world.disk.loose())):
                self.goes_on(copy.deepcopy(world), kept, place, many)
                crashes += 1
            many += 1
        self.assertGreater(many, 60)
        self.assertGreater(crashes, 300)

    def goes_on(self, world, kept, place, many):
        world.crash(list(kept))
        # Crashes right behind a recovery change nothing.
        before = world.host.picture(), world.host.turns()
        world.crash([])
        self.assertEqual((world.host.picture(), world.host.turns()), before)
        world.disk.fail_after(many % 7 + 2)
        for step in SCRIPT[place:place + 6]:
            if stopped(lambda: act(world, step)):
                world.crash([index for index in range(len(world.disk.loose())) if (index + many) % 3])
                break
        world.disk.fail_after(10 ** 9)
        for step in (("accept", "in", 2), ("run", 5), ("commit",), ("snapshot", None)):
            act(world, step)
        self.assertTrue(world.explained())
        self.assertEqual(audit(world.disk), [])

    def test_what_was_confirmed_or_released_is_never_lost(self):
        """At every write the newest root and the log hold what was durable, whatever is kept."""
        world = World(SHOP, Careful(300))
        wanted = []

        def look():
            for kept in subsets(len(world.disk.loose()))[:6]:
                disk = copy.copy(world.disk)
                disk.look = None
                disk.crash(list(kept))
                host = recover(disk)
                self.assertGreaterEqual(host.turns(), world.fixed)
                for port in PORTS:
                    self.assertGreaterEqual(host.confirmed(port), world.confirmed(port))
                    # All that was released is there or was taken.
                    outbox = host.outbox(port)
                    if outbox:
                        first = outbox[0][0]
                        seen = list(enumerate(world.seen[port], 1))[first - 1:]
                        self.assertEqual(outbox[:len(seen)], seen)
                wanted.append(kept)

        world.disk.look = look
        for step in SCRIPT:
            act(world, step)
        self.assertGreater(len(wanted), 200)

    def test_a_disk_of_800_blocks(self):
        """Sixty records, thirty frames, 150 outputs and waiting values, all else from snapshot to snapshot."""
        fields = ", ".join(f"{name}: k" for name in "abcdefghij")
        text = ("func main() let k = 0 let last = none while k < 28 spawn f(k) k = k + 1 end"
                f" k = 0 while k < 31 last = new({fields}, next: last) k = k + 1 end"
                " while 1 let q = receive in g(last, q) end end"
                " func g(r, q) while r r.a = q r.j = r.a + 1 r = r.next end end"
                f" func f(k) let r = new({fields}) while 1 let v = receive p r.c = v + k r.h = v send out r.c end end")
        world = World(text, Careful(800))
        for number in range(1, 41):
            world.accept("waits", 10 ** 11 + number)
        world.commit()
        for turn in range(12):
            for _ in range(28):
                world.accept("p", 10 ** 11 + turn)
            world.accept("in", turn)
            world.host.run(400)
            world.host.collect()
            outputs = world.host.outbox("out")
            if len(outputs) > 110 - 28:
                world.took("out", outputs[-83][0])
            self.assertEqual([world.host.records(), world.snapshot()], [59, True])
            world.commit()
        self.assertEqual([len(world.host.outbox("out")), sum(len(task[1]) for task in world.host.picture()[2])], [110, 29])
        self.assertTrue(world.explained())

    def test_random_sessions(self):
        self.met = collections.Counter()
        for seed in range(70):
            self.seed = seed
            self.session(random.Random(seed))
        for word in ("stopped", "change", "refused", "no output", "took", "finished", "open"):
            self.assertGreater(self.met[word], 15, word)

    def session(self, rand):
        maker = SoundMaker(rand)
        world = World(write(maker.program()), Careful(rand.choice((200, 400))))
        for _ in range(40):
            step = self.step(rand, maker, world)
            if rand.random() < 0.15:
                world.disk.fail_after(rand.randint(0, 6))
            if stopped(lambda: self.try_step(world, step)):
                self.met["stopped"] += 1
                world.crash([index for index in range(len(world.disk.loose())) if rand.random() < 0.6])
            elif rand.random() < 0.03:
                world.crash([index for index in range(len(world.disk.loose())) if rand.random() < 0.6])
            else:
                world.look()
        self.assertTrue(world.explained(), self.seed)
        self.assertEqual(audit(world.disk), [], self.seed)

    def step(self, rand, maker, world):
        roll = rand.random()
        if roll < 0.3:
            return ("accept", rand.choice(PORTS[:3]), rand.choice((0, 1, -5, 10 ** 12)))
        if roll < 0.5:
            return ("run", rand.randint(0, 4))
        if roll < 0.62:
            return ("commit",)
        if roll < 0.8:
            return ("snapshot", rand.choice((None, 0, 1, 2, 5, 20)))
        if roll < 0.88:
            return ("collect", rand.choice((None, 0, 1, 5, 20)))
        if roll < 0.94:
            return ("took", rand.choice(PORTS), rand.randint(0, 4))
        program = tuple(maker.edited(function) for function in read(world.host.text()))
        return ("accept", "in", 7) if faults(program) else ("change", write(program))

    def try_step(self, world, step):
        word, *args = step
        if word == "took":
            try:
                world.took(*args)
                self.met["took"] += 1
            except NoOutput:
                self.met["no output"] += 1
        elif word == "change":
            try:
                world.change(*args)
                self.met["change"] += 1
            except Refused:
                self.met["refused"] += 1
        elif word == "snapshot":
            self.met["finished" if world.snapshot(*args) else "open"] += 1
        else:
            act(world, step)


class SmallDiskTest(unittest.TestCase):
    """Disks and logs that become full, with crashes between."""

    def test_random(self):
        self.met = collections.Counter()
        for seed in range(60):
            self.look(random.Random(seed))
        for word in ("snapshot", "snapshot full", "accept full", "commit full", "stopped"):
            self.assertGreater(self.met[word], 10, word)

    def look(self, rand):
        text = "func main() let r = none while 1 r = new(n: r, v: receive in) send out r.v r.n = none end end"
        world = World(text, Careful(rand.randint(45, 75)))
        for _ in range(60):
            if rand.random() < 0.07:
                world.disk.fail_after(rand.randint(0, 12))
            if stopped(lambda: self.step(rand, world)):
                self.met["stopped"] += 1
                world.crash([index for index in range(len(world.disk.loose())) if rand.random() < 0.7])
            world.look()
        self.assertTrue(world.explained())

    def step(self, rand, world):
        roll = rand.random()
        if roll < 0.5:
            for _ in range(rand.randint(1, 20)):
                self.tried("accept", lambda: world.accept("in", rand.randint(-9, 9)))
        elif roll < 0.65:
            world.host.run(rand.randint(0, 9))
        elif roll < 0.8:
            self.tried("commit", world.commit)
        elif roll < 0.92:
            self.tried("snapshot", lambda: world.snapshot(rand.choice((None, 0, 3, 9))))
        elif roll < 0.96:
            world.host.collect(rand.choice((None, 4)))
        else:
            for number, _ in world.host.outbox("out")[-1:]:
                world.took("out", number)

    def tried(self, word, call):
        try:
            call()
            self.met[word] += 1
        except Full:
            self.met[f"{word} full"] += 1


if __name__ == "__main__":
    unittest.main()
