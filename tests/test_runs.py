"""Long runs of yards (points 1, 9, 18 and 19): what is always so, behind each deed, whatever is asked for."""

import copy
import random
import unittest

from tests.helper import STATION, diamonds, drawn_yard, eight, fork, loop, outcome, some_yards
from tests.words import named_of
from yardkeep.parts import Gate, Points
from yardkeep.paths import joins_on
from yardkeep.routes import routes_from
from yardkeep.yards import Yard

NAMES = ["a", "b", "c", "d"]


class Always(unittest.TestCase):
    def stands_on_its_path(self, spots, path):
        """Whether spots are steps of a path, one behind the other, in its order and by their entries."""
        ways = [(step[0], step[1]) for step in path]
        return spots in [ways[k:k + len(spots)] for k in range(len(ways))] and spots != []

    def holds(self, yard, long, rows):
        """Point 19, of a yard whose last deed had these rows; long tells the trains' lengths."""
        tracks, paths = yard.tracks, yard.paths()
        self.assertEqual(yard.accidents(), [])
        self.assertEqual(yard.world.trains(), yard.trains())
        self.assertEqual(yard.world.lies(), yard.lies())
        held = [step[0] for path in paths.values() for step in path]
        self.assertEqual(len(held), len(set(held)), paths)
        stood = [spot[0] for train in paths for spot in yard.spots(train)]
        self.assertEqual(len(stood), len(set(stood)), stood)
        for train, path in paths.items():
            spots, last = yard.spots(train), path[-1]
            self.assertTrue(self.stands_on_its_path(spots, path), (spots, path))
            self.assertLessEqual(len(spots), long[train])
            self.assertTrue(joins_on(tracks, path), path)
            self.assertTrue(last[2] == "" or tracks.signal_at((last[0], last[2])) != "", path)
            for part, entry, leave, lie in path:
                self.assertEqual(yard.lies().get(part, ""), lie)
            if yard.fault() is None and (len(spots) == long[train] or len(path) == 1):
                self.assertIn(path[0][0], [spot[0] for spot in spots])
        back = [row[1] for row in rows if row[0] == "back"]
        self.assertEqual([part for part in back if part in stood or part in held], [])

    def does(self, yard, long, kind, handed):
        """Asks for a deed; whatever comes of it, what is always so is so."""
        ahead = yard.log()
        came = outcome(getattr(yard, kind), *handed)
        if kind == "come" and came == ("told", None):
            long[handed[0]] = handed[1]
        rows = yard.log()
        self.assertEqual(rows[:len(ahead)], ahead)
        self.holds(yard, long, rows[len(ahead):])
        if kind == "go":
            self.assertIn(came[-1], ("went", "stop", "end", "NoTrain"))
        return came


class Asking:
    """What is asked for, as it falls: of a yard, by a random source with a seed of its own."""
    def __init__(self, yard, chance):
        self.yard, self.chance = yard, chance
        # Many trains stand in one another's way before long, few go far: runs of both sorts are wanted.
        self.trains = NAMES[:chance.randint(1, 4)]
        tracks = yard.tracks
        self.gates, self.points, self.parts = named_of(tracks, Gate), named_of(tracks, Points), tracks.names()
        self.routes = dict([(row[0], routes_from(tracks, row[0])[:20]) for row in tracks.signals()])

    def way(self, train):
        path = self.yard.path(train) if train in self.yard.trains() else [("", "", "", "")]
        signal = self.yard.tracks.signal_at((path[-1][0], path[-1][2]))
        if signal == "" or self.chance.random() < 0.05:
            signal = self.chance.choice(sorted(self.routes))
        return self.chance.choice(self.routes[signal] or [None])

    def drawn(self, faults):
        chance = self.chance
        kinds = ["turn", "stiffen", "loosen", "loosen", "come", "come", "about", "about", "leave", "leave"]
        kind = chance.choice(kinds + ["set_way"] * 5 + ["go"] * 9 + ["fail", "mend"] * faults)
        there = self.yard.trains()
        train = chance.choice(there if there and kind != "come" and chance.random() < 0.95 else self.trains)
        handed = {"come": [train, chance.randint(1, 4), chance.choice(self.gates)],
                  "turn": [chance.choice(self.points or ["w"]), chance.choice(["left", "right"])],
                  "stiffen": [chance.choice(self.points or ["w"])], "loosen": [chance.choice(self.points or ["w"])],
                  "fail": [chance.choice(self.parts), chance.choice(["blind", "stuck"])], "mend": [],
                  "set_way": [train, self.way(train) if kind == "set_way" else None]}
        return kind, handed.get(kind, [train])


class Runs(Always):
    def run_of(self, tracks, chance, count, faults, ahead=()):
        """A run of so many deeds, behind those ahead: how often which deed came out how."""
        yard, long, found = Yard(tracks), {}, {}
        for kind, handed in ahead:
            self.does(yard, long, kind, handed)
        asking = Asking(yard, chance)
        for k in range(count):
            kind, handed = asking.drawn(faults)
            came = self.does(yard, long, kind, handed)
            word = (kind, came[1] if kind == "go" and len(came) == 2 else came[0])
            found[word] = found.get(word, 0) + 1
        return found

    def summed(self, one, two):
        return dict([(word, one.get(word, 0) + two.get(word, 0)) for word in list(one) + list(two)])

    def test_no_eye_at_fault(self):
        chance = random.Random(19)
        found = {}
        for tracks in [STATION] * 6 + [fork()] * 3:
            for k in range(3):
                found = self.summed(found, self.run_of(tracks, chance, 120, 0))
        for word in (("come", "told"), ("set_way", "told"), ("set_way", "Held"), ("set_way", "Stiff"),
                     ("turn", "told"), ("turn", "Held"), ("about", "told"), ("about", "NoTurn"), ("leave", "told"),
                     ("leave", "NoTurn"), ("go", "went"), ("go", "stop"), ("go", "end")):
            self.assertGreater(found.get(word, 0), 5, word)

    def test_each_eye_blind_and_stuck_in_turn(self):
        chance = random.Random(20)
        found = {}
        for tracks in (STATION, fork()):
            for part in tracks.names():
                for word in ("blind", "stuck"):
                    for k in range(2):
                        found = self.summed(found, self.run_of(tracks, chance, 80, 0, [("fail", [part, word])]))
        for word in (("come", "told"), ("come", "Seen"), ("set_way", "told"), ("set_way", "Held"), ("set_way", "Seen"),
                     ("turn", "Seen"), ("about", "told"), ("leave", "told"), ("go", "went"), ("go", "end")):
            self.assertGreater(found.get(word, 0), 5, word)

    def test_faults_that_come_and_go(self):
        chance = random.Random(21)
        found = {}
        for tracks in [STATION] * 20 + [fork()] * 6:
            found = self.summed(found, self.run_of(tracks, chance, 120, 2))
        for word in (("fail", "told"), ("fail", "OneFault"), ("mend", "told"), ("go", "went"), ("leave", "told")):
            self.assertGreater(found.get(word, 0), 5, word)

    def test_many_yards(self):
        chance = random.Random(22)
        yards = [loop([("in", "g", "a"), ("l", "l", "b"), ("k", "l", "a")]), diamonds(2, [("in", "g", "a")])]
        yards += some_yards() + [drawn_yard(chance) for k in range(150)]
        found, count = {}, 0
        for tracks in yards:
            if [name for name in named_of(tracks, Gate) if tracks.signal_at((name, "a"))]:
                count += 1
                found = self.summed(found, self.run_of(tracks, chance, 100, count % 2))
        self.assertGreater(count, 50)
        self.assertGreater(found[("go", "went")], 150)


class Everything(Always):
    """All states of small yards, from which all deeds are asked for."""
    def deeds(self, tracks, trains, faults):
        gates, points = named_of(tracks, Gate), named_of(tracks, Points)
        deeds = [("come", [train, long, gate]) for train, long in trains for gate in gates]
        deeds += [(kind, [train]) for kind in ("go", "about", "leave") for train, long in trains]
        routes = [route for row in tracks.signals() for route in routes_from(tracks, row[0])]
        deeds += [("set_way", [train, route]) for train, long in trains for route in routes]
        deeds += [("turn", [name, lie]) for name in points for lie in ("left", "right")]
        deeds += [("fail", [part, word]) for part in tracks.names() for word in ("blind", "stuck") if faults]
        return deeds + ([("mend", [])] if faults else [])

    def key(self, yard):
        return repr((yard.paths(), [yard.spots(train) for train in yard.trains()], yard.lies(), yard.fault()))

    def states(self, tracks, trains, faults):
        """How many states there are; behind each deed from each of them what is always so is so."""
        deeds, long = self.deeds(tracks, trains, faults), dict(trains)
        first = Yard(tracks)
        known, left = {self.key(first): True}, [first]
        while left:
            ahead = left.pop()
            for kind, handed in deeds:
                yard = copy.deepcopy(ahead, {id(tracks): tracks})
                yard.done = []
                came = outcome(getattr(yard, kind), *handed)
                if came[0] == "told":
                    self.holds(yard, long, yard.log())
                    key = self.key(yard)
                    if key not in known:
                        known[key] = True
                        left.append(yard)
                else:
                    self.assertEqual(self.key(yard), self.key(ahead))
        return len(known)

    def test_two_trains_on_a_fork(self):
        for one, two in ((1, 2), (3, 1)):
            self.assertGreater(self.states(fork(), [("a", one), ("b", two)], False), 50)

    def test_a_train_and_a_fault(self):
        both = [("in", "g", "a"), ("l", "l", "b"), ("k", "l", "a")]
        for tracks, long in ((loop(both), 2), (eight(both + [("out", "s", "a")]), 1)):
            self.assertGreater(self.states(tracks, [("a", long)], True), 50)
