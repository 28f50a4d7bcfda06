"""Choices (points 10, 11 and 21): the next ways to a goal, and what stands against each."""

import inspect
import random
import unittest

from tests.helper import (H_TO_K, K_TO_P, K_TO_Q, NO_NAMES, P_TO_K, Q_TO_K, STATION, TO_H, TO_M, TO_P, TO_Q, TO_S,
                          diamonds, drawn_yard, fork, outcome, some_yards, way, yard_with)
from tests.words import YardWords
from yardkeep.choices import against_all, next_ways
from yardkeep.routes import routes_from
from yardkeep.yards import Yard


def told_of(yard):
    return (yard.paths(), yard.lies(), yard.stiff(), yard.taken(), yard.seen(), yard.fault(), yard.log(),
            yard.trains(), [yard.spots(train) for train in yard.trains()])


class NextWays(unittest.TestCase):
    def test_arguments(self):
        self.assertEqual(str(inspect.signature(next_ways)), "(yard, train, goal)")
        self.assertEqual(str(inspect.signature(against_all)), "(yard, routes)")

    def test_one(self):
        for routes, goal, told in (((), "m", TO_M), ((TO_M,), "p", TO_P), ((TO_M,), "q", TO_Q),
                                   ((TO_M, TO_Q), "s", TO_S), ((TO_M, TO_Q), "k", Q_TO_K), ((TO_M, TO_P), "k", P_TO_K)):
            self.assertEqual(next_ways(yard_with(*routes), "t", goal), [told])

    def test_none(self):
        for routes, goal in (((), "p"), ((), "g"), ((TO_M,), "m"), ((TO_M,), "w"), ((TO_M,), "g"), ((TO_M,), "s"),
                             ((TO_M, TO_P), "s"), ((TO_M,), "nosuch"), ((TO_M,), ""), ((TO_M,), "mb")):
            self.assertEqual(next_ways(yard_with(*routes), "t", goal), [])

    def test_several_in_order(self):
        tracks = diamonds(2, [("in", "g", "a"), ("out", "s", "a")])
        yard = Yard(tracks)
        yard.come("t", 1, "g")
        told = next_ways(yard, "t", "s")
        self.assertEqual(len(told), 4)
        self.assertEqual(told, sorted(told))
        self.assertEqual(told, routes_from(tracks, "in"))
        self.assertEqual([type(route) for route in told], [tuple] * 4)
        self.assertEqual([[step[3] for step in route[1:5]] for route in told],
                         [["left"] * 4, ["left"] * 2 + ["right"] * 2, ["right"] * 2 + ["left"] * 2, ["right"] * 4])

    def test_from_the_paths_end_wherever_the_train_stands(self):
        for went in range(4):
            yard = yard_with(TO_M, TO_P, went=went)
            self.assertEqual((next_ways(yard, "t", "k"), next_ways(yard, "t", "p")), ([P_TO_K], []))

    def test_what_stands_against_a_way_counts_for_nothing(self):
        yard = yard_with(TO_M)
        yard.stiffen("w")
        yard.fail("q", "stuck")
        yard.come("u", 1, "h")
        yard.set_way("u", H_TO_K)
        yard.set_way("u", K_TO_P)
        self.assertEqual((next_ways(yard, "t", "p"), next_ways(yard, "t", "q")), ([TO_P], [TO_Q]))
        self.assertEqual(against_all(yard, [TO_P, TO_Q]), [("held", "p"), ("stiff", "w")])

    def test_no_signal_at_the_paths_end(self):
        for routes in ((TO_M, TO_Q, TO_S), (TO_M, TO_P, P_TO_K, TO_H)):
            yard = yard_with(*routes)
            for goal in STATION.names() + [""]:
                self.assertEqual(next_ways(yard, "t", goal), [])
        yard = yard_with()
        yard.about("t")
        self.assertEqual(next_ways(yard, "t", "m"), [])

    def test_turned_about(self):
        yard = yard_with(TO_M, TO_P, went=3)
        yard.about("t")
        self.assertEqual(next_ways(yard, "t", "k"), [])
        self.assertEqual(next_ways(yard, "t", "m"), [way(STATION, "pa", "m")])

    def test_another_train(self):
        yard = yard_with(TO_M)
        yard.come("u", 1, "h")
        self.assertEqual((next_ways(yard, "u", "k"), next_ways(yard, "t", "k")), ([H_TO_K], []))

    def test_no_train(self):
        yard = yard_with(TO_M)
        for thing in NO_NAMES + ["u", "g", "gi"]:
            for goal in ("m", "nosuch", ""):
                self.assertEqual(outcome(next_ways, yard, thing, goal), ("NoTrain",))
        yard.about("t")
        yard.leave("t")
        self.assertEqual(outcome(next_ways, yard, "t", "m"), ("NoTrain",))

    def test_nothing_is_done_and_what_is_told_is_the_askers_own(self):
        yard = yard_with(TO_M)
        ahead = told_of(yard)
        next_ways(yard, "t", "p").clear()
        self.assertEqual(next_ways(yard, "t", "p"), [TO_P])
        told = next_ways(yard, "t", "p")
        yard.set_way("t", TO_Q)
        self.assertEqual(told, [TO_P])
        self.assertNotEqual(told_of(yard), ahead)
        ahead = told_of(yard)
        next_ways(yard, "t", "k")
        self.assertEqual(told_of(yard), ahead)


class AgainstAll(unittest.TestCase):
    def test_no_routes(self):
        told = against_all(yard_with(TO_M), [])
        self.assertEqual((told, type(told)), ([], list))

    def test_nothing(self):
        yard = yard_with()
        self.assertEqual(against_all(yard, [TO_M, TO_P, TO_Q, P_TO_K, TO_H]), [None] * 5)

    def test_in_the_order_of_the_routes(self):
        yard = yard_with(TO_M)
        yard.come("u", 1, "h")
        yard.set_way("u", H_TO_K)
        yard.set_way("u", K_TO_P)
        yard.stiffen("w")
        yard.stiffen("y")
        yard.fail("s", "stuck")
        told = {TO_M: ("held", "m"), TO_P: ("held", "p"), TO_Q: ("stiff", "w"), TO_S: ("stiff", "y"),
                Q_TO_K: ("held", "v"), P_TO_K: ("held", "v"), TO_H: ("held", "h"), K_TO_Q: ("held", "v")}
        routes = list(told)
        for order in (routes, routes[::-1], routes[3:] + routes[:3], routes[:2] * 2):
            self.assertEqual(against_all(yard, order), [told[route] for route in order])

    def test_each_word(self):
        yard = yard_with(TO_M)
        yard.fail("w", "stuck")
        self.assertEqual(against_all(yard, [TO_P, TO_Q, TO_S]), [("taken", "w"), ("taken", "w"), None])
        yard.mend()
        yard.fail("p", "stuck")
        self.assertEqual(against_all(yard, [TO_P, TO_Q]), [("taken", "p"), None])
        yard.stiffen("w")
        self.assertEqual(against_all(yard, [TO_P, TO_Q]), [("taken", "p"), ("stiff", "w")])
        yard.loosen("w")
        yard.turn("w", "right")
        yard.stiffen("w")
        self.assertEqual(against_all(yard, [TO_P, TO_Q]), [("stiff", "w"), None])
        yard.set_way("t", TO_Q)
        self.assertEqual(against_all(yard, [TO_P, TO_Q]), [("held", "w"), ("held", "w")])

    def test_by_what_the_eyes_tell(self):
        yard = yard_with(TO_M, went=1)
        yard.fail("m", "blind")
        self.assertEqual(against_all(yard, [way(STATION, "pa", "m")]), [("held", "m")])
        self.assertEqual(against_all(yard, [TO_M]), [("held", "m")])
        yard.mend()
        yard.fail("k", "stuck")
        self.assertEqual(against_all(yard, [H_TO_K]), [("taken", "k")])
        yard.mend()
        self.assertEqual(against_all(yard, [H_TO_K]), [None])

    def test_nothing_handed_in_or_done_is_changed(self):
        yard = yard_with(TO_M, TO_Q, went=2)
        yard.stiffen("v")
        routes, ahead = [TO_P, Q_TO_K, TO_M], told_of(yard)
        told = against_all(yard, routes)
        self.assertEqual((routes, told_of(yard)), ([TO_P, Q_TO_K, TO_M], ahead))
        self.assertEqual(told, [("held", "w"), ("stiff", "v"), None])
        told.clear()
        self.assertEqual(against_all(yard, routes), [("held", "w"), ("stiff", "v"), None])
        told = against_all(yard, routes)
        yard.loosen("v")
        routes.clear()
        self.assertEqual(told, [("held", "w"), ("stiff", "v"), None])

    def test_as_what_is_refused_then(self):
        """A way is set just where nothing stands against it, and refused by what does."""
        chance = random.Random(21)
        words = {"held": "Held", "taken": "Seen", "stiff": "Stiff"}
        found = {}
        for tracks in [STATION, STATION, fork()] * 12 + some_yards() + [drawn_yard(chance) for k in range(40)]:
            yard, model = Yard(tracks), YardWords(tracks)
            for k in range(40):
                for kind, handed in self.drawn(chance, tracks):
                    self.assertEqual(outcome(getattr(yard, kind), *handed), model.deed(kind, *handed))
                for train in yard.trains():
                    goal = chance.choice(tracks.names())
                    last = model.keeper.path[train][-1]
                    signal = tracks.signal_at((last[0], last[2]))
                    ways = [route for route in model.keeper.routes if route[0] == signal and route[-1][0] == goal]
                    told = next_ways(yard, train, goal)
                    self.assertEqual(told, ways)
                    told_against = against_all(yard, told)
                    self.assertEqual(told_against, [model.keeper.against(route, model.seen()) for route in ways])
                    for route, one in list(zip(ways, told_against))[:1]:
                        came = ("told", None) if one is None else (words[one[0]], one[1])
                        self.assertEqual(outcome(yard.set_way, train, route), came)
                        self.assertEqual(model.set_way(train, route), came)
                        found[came[0]] = found.get(came[0], 0) + 1
        for word in ("told", "Held", "Seen", "Stiff"):
            self.assertGreater(found.get(word, 0), 5, word)

    def drawn(self, chance, tracks):
        part, train = chance.choice(tracks.names()), chance.choice("abc")
        lie = chance.choice(["left", "right"])
        deeds = [("come", [train, chance.randint(1, 4), part]), ("stiffen", [part]), ("loosen", [part]),
                 ("turn", [part, lie]), ("fail", [part, chance.choice(["blind", "stuck"])]), ("mend", []),
                 ("about", [train]), ("leave", [train])] + [("go", [train])] * 4
        return [chance.choice(deeds) for k in range(6)]
