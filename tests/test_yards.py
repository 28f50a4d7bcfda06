"""Yards (points 1, 2, 9, 13 to 15 and 18 to 20): each deed, its row in the log, and the look behind it."""

import inspect
import random
import unittest

from tests.helper import (H_TO_K, K_TO_P, NO_LENGTHS, NO_NAMES, P_TO_K, Q_TO_K, STATION, TO_H, TO_M, TO_P, TO_Q, TO_S,
                          drawn_yard, fork, line, loop, outcome, some_yards, way, yard_with)
from tests.words import YardWords
from yardkeep.errors import NoTrain
from yardkeep.tracks import Tracks
from yardkeep.yards import Yard


def told_of(yard):
    """All that a yard tells, in lists of its own, whatever those are that the yard gave."""
    trains = list(yard.trains())
    return (trains, [(train, list(path)) for train, path in yard.paths().items()], list(yard.lies().items()),
            list(yard.stiff()), [yard.shows(signal[0]) for signal in yard.tracks.signals()],
            [list(yard.spots(train)) for train in trains], list(yard.taken().items()), list(yard.accidents()),
            list(yard.seen().items()), yard.fault(), list(yard.log()))


def parts(yard, train):
    return "".join([step[0] for step in yard.path(train)])


def stands(yard, train):
    return "".join([spot[0] for spot in yard.spots(train)])


class YardCase(unittest.TestCase):
    def refused(self, came, yard, kind, *handed):
        """It is refused so, changes nothing, and has no row."""
        ahead = told_of(yard)
        self.assertEqual(outcome(getattr(yard, kind), *handed), came, (kind, handed))
        self.assertEqual(told_of(yard), ahead, (kind, handed))

    def does(self, yard, kind, *handed, rows=(), tells=None):
        """It is done, tells so, and has these rows in the log."""
        ahead = yard.log()
        self.assertEqual(outcome(getattr(yard, kind), *handed), ("told", tells), (kind, handed))
        self.assertEqual(yard.log(), ahead + list(rows), (kind, handed))
        self.assertEqual(yard.accidents(), [])


class Interface(unittest.TestCase):
    def test_arguments(self):
        self.assertEqual(str(inspect.signature(Yard)), "(tracks)")
        yard = Yard(STATION)
        for kind, told in (("come", "(train, length, gate)"), ("set_way", "(train, route)"), ("turn", "(points, lie)"),
                           ("stiffen", "(points)"), ("loosen", "(points)"), ("about", "(train)"), ("go", "(train)"),
                           ("leave", "(train)"), ("fail", "(part, way)"), ("mend", "()"), ("log", "()"),
                           ("spots", "(train)"), ("accidents", "()"), ("taken", "()"), ("path", "(train)"),
                           ("paths", "()"), ("lies", "()"), ("shows", "(signal)"), ("trains", "()"), ("stiff", "()"),
                           ("seen", "()"), ("fault", "()")):
            self.assertEqual(str(inspect.signature(getattr(yard, kind))), told, kind)

    def test_its_tracks(self):
        tracks = fork()
        self.assertIs(Yard(tracks).tracks, tracks)

    def test_at_first(self):
        for tracks in some_yards() + [STATION, Tracks([], [])]:
            points = [name for name in tracks.names() if len(tracks.named(name).lies()) == 2]
            empty = [(name, False) for name in tracks.names()]
            self.assertEqual(told_of(Yard(tracks)), ([], [], [(name, "left") for name in points], [],
                                                     [False] * len(tracks.signals()), [], empty, [], empty, None, []))

    def test_kinds(self):
        yard = yard_with(TO_M, went=1)
        told = [yard.log(), yard.spots("t"), yard.accidents(), yard.taken(), yard.path("t"), yard.paths(),
                yard.lies(), yard.trains(), yard.stiff(), yard.seen()]
        self.assertEqual([type(one) for one in told], [list, list, list, dict, list, dict, dict, list, list, dict])
        self.assertEqual([type(row) for row in yard.log()], [tuple] * 4)
        self.assertIs(yard.shows("gi"), False)


class Come(YardCase):
    def test_done(self):
        for length in (1, 2, 3, 4):
            yard = Yard(STATION)
            self.does(yard, "come", "t", length, "h", rows=[("come", "t", "h")])
            self.assertEqual((yard.trains(), yard.spots("t"), yard.path("t")),
                             (["t"], [("h", "")], [("h", "", "a", "")]))
            self.assertEqual([part for part, taken in yard.taken().items() if taken], ["h"])

    def test_as_long_as_was_asked(self):
        for length, stood in ((1, ["g", "m", "w", "p"]), (2, ["g", "gm", "mw", "wp"]),
                              (3, ["g", "gm", "gmw", "mwp"]), (4, ["g", "gm", "gmw", "gmwp"])):
            yard = yard_with(TO_M, TO_P, length=length)
            told = [stands(yard, "t")]
            for k in range(3):
                self.assertEqual(yard.go("t"), "went")
                told.append(stands(yard, "t"))
            self.assertEqual(told, stood)

    def test_refused(self):
        yard = yard_with(TO_M, went=1)
        yard.come("b", 1, "g")
        for thing in NO_NAMES + ["t", "b"]:
            self.refused(("BadName",), yard, "come", thing, 5, "nosuch")
        for thing in NO_NAMES + ["m", "w", "s", "gi"]:
            self.refused(("BadEnd",), yard, "come", "u", 5, thing)
        for thing in NO_LENGTHS:
            self.refused(("TooMany",), yard, "come", "u", thing, "g")
        self.refused(("Held", "g"), yard, "come", "u", 1, "g")
        yard.fail("h", "stuck")
        self.refused(("Seen", "h"), yard, "come", "u", 1, "h")
        yard.mend()
        self.does(yard, "come", "u", 1, "h", rows=[("come", "u", "h")])
        self.refused(("BadEnd",), Yard(line(1, [])), "come", "t", 1, "g")

    def test_a_blind_eye_lets_no_train_into_another(self):
        yard = Yard(STATION)
        yard.fail("g", "blind")
        yard.come("t", 1, "g")
        self.refused(("Held", "g"), yard, "come", "u", 1, "g")


class SetWay(YardCase):
    def test_done(self):
        yard = yard_with()
        self.does(yard, "set_way", "t", TO_M, rows=[("way", "t", TO_M)])
        self.does(yard, "set_way", "t", TO_Q, rows=[("way", "t", TO_Q)])
        self.assertEqual((parts(yard, "t"), stands(yard, "t")), ("gmwq", "g"))
        self.assertEqual(yard.lies(), {"v": "left", "w": "right", "y": "left"})

    def test_its_points_are_turned_in_the_world(self):
        for route, spot in ((TO_P, ("p", "a")), (TO_Q, ("q", "a"))):
            yard = yard_with(TO_M, route, went=3)
            self.assertEqual((yard.spots("t"), yard.accidents()), ([spot], []))

    def test_refused(self):
        yard = yard_with(TO_M, TO_P)
        yard.come("u", 1, "h")
        yard.set_way("u", H_TO_K)
        for thing in NO_NAMES + ["v", "g"]:
            self.refused(("NoTrain",), yard, "set_way", thing, None)
        for route in (None, (), ("pb",), list(P_TO_K), TO_M, Q_TO_K, K_TO_P, P_TO_K[:2], 0, "pb"):
            self.refused(("BadWay",), yard, "set_way", "t", route)
        self.refused(("Held", "k"), yard, "set_way", "t", P_TO_K)
        self.refused(("Held", "p"), yard, "set_way", "u", K_TO_P)

    def test_taken_and_stiff(self):
        yard = yard_with(TO_M)
        yard.stiffen("w")
        self.refused(("Stiff", "w"), yard, "set_way", "t", TO_Q)
        yard.fail("q", "stuck")
        self.refused(("Stiff", "w"), yard, "set_way", "t", TO_Q)
        yard.loosen("w")
        self.refused(("Seen", "q"), yard, "set_way", "t", TO_Q)
        yard.mend()
        self.does(yard, "set_way", "t", TO_Q, rows=[("way", "t", TO_Q)])

    def test_a_train_that_no_eye_tells(self):
        yard = yard_with(TO_M, TO_P, went=3)
        yard.fail("p", "blind")
        yard.come("u", 1, "h")
        yard.set_way("u", H_TO_K)
        self.assertEqual(yard.seen()["p"], False)
        self.refused(("Held", "p"), yard, "set_way", "u", K_TO_P)

    def test_round_a_loop(self):
        tracks = loop([("in", "g", "a"), ("l", "l", "b")])
        yard = Yard(tracks)
        yard.come("t", 1, "g")
        yard.set_way("t", way(tracks, "in", "l"))
        self.refused(("Held", "w"), yard, "set_way", "t", way(tracks, "l", "g"))
        self.does(yard, "go", "t", rows=[("went", "t", "w"), ("back", "g")], tells="went")
        self.does(yard, "go", "t", rows=[("went", "t", "l"), ("back", "w")], tells="went")
        self.does(yard, "set_way", "t", way(tracks, "l", "g"), rows=[("way", "t", way(tracks, "l", "g"))])
        self.does(yard, "go", "t", rows=[("went", "t", "w"), ("back", "l")], tells="went")
        self.does(yard, "go", "t", rows=[("went", "t", "g"), ("back", "w")], tells="went")
        self.does(yard, "leave", "t", rows=[("leave", "t")])


class Turn(YardCase):
    def test_done(self):
        yard = yard_with(TO_M)
        for points, lie in (("w", "right"), ("w", "right"), ("v", "left"), ("w", "left"), ("y", "right")):
            self.does(yard, "turn", points, lie, rows=[("turn", points, lie)])
            self.assertEqual(yard.lies()[points], lie)
        self.assertEqual(yard.lies(), {"v": "left", "w": "left", "y": "right"})

    def test_refused(self):
        yard = yard_with(TO_M, TO_P)
        yard.stiffen("v")
        yard.fail("y", "stuck")
        for thing in NO_NAMES + ["m", "nosuch"]:
            self.refused(("BadName",), yard, "turn", thing, "left")
            self.refused(("BadName",), yard, "turn", "w", thing)
        for lie in ("left", "right"):
            self.refused(("Held", "w"), yard, "turn", "w", lie)
            self.refused(("Stiff", "v"), yard, "turn", "v", lie)
            self.refused(("Seen", "y"), yard, "turn", "y", lie)
        yard.mend()
        yard.loosen("v")
        for points in ("v", "y"):
            self.does(yard, "turn", points, "right", rows=[("turn", points, "right")])

    def test_no_points_turn_under_a_train_that_no_eye_tells(self):
        yard = yard_with(TO_M, TO_P, length=2)
        yard.fail("w", "blind")
        for k in range(3):
            yard.go("t")
            self.refused(("Held", "w"), yard, "turn", "w", "right")
        yard.set_way("t", P_TO_K)
        self.does(yard, "go", "t", rows=[("went", "t", "v"), ("back", "w")], tells="went")
        self.does(yard, "turn", "w", "right", rows=[("turn", "w", "right")])


class StiffAndLoose(YardCase):
    def test_done_without_a_row(self):
        yard = yard_with(TO_M, TO_P, went=1)
        for kind, points, stiff in (("stiffen", "y", ["y"]), ("stiffen", "v", ["v", "y"]),
                                    ("stiffen", "v", ["v", "y"]), ("stiffen", "w", ["v", "w", "y"]),
                                    ("loosen", "v", ["w", "y"]), ("loosen", "v", ["w", "y"])):
            self.does(yard, kind, points)
            self.assertEqual(yard.stiff(), stiff)

    def test_refused(self):
        yard = yard_with(TO_M)
        yard.stiffen("v")
        for thing in NO_NAMES + ["m", "nosuch", "gi"]:
            self.refused(("BadName",), yard, "stiffen", thing)
            self.refused(("BadName",), yard, "loosen", thing)


class About(YardCase):
    def test_done(self):
        yard = yard_with(TO_M, TO_P, length=2, went=1)
        self.does(yard, "about", "t", rows=[("about", "t"), ("back", "p"), ("back", "w")])
        self.assertEqual(yard.spots("t"), [("m", "b"), ("g", "a")])
        self.assertEqual(yard.path("t"), [("m", "b", "a", ""), ("g", "a", "", "")])
        self.does(yard, "about", "t", rows=[("about", "t")])
        self.assertEqual(yard.spots("t"), [("g", ""), ("m", "a")])

    def test_at_a_gate_a_stop_and_a_signal(self):
        yard = yard_with()
        self.does(yard, "about", "t", rows=[("about", "t")])
        self.assertEqual((yard.spots("t"), yard.path("t")), ([("g", "a")], [("g", "a", "", "")]))
        yard = yard_with(TO_M, TO_Q, TO_S, went=5)
        self.does(yard, "about", "t", rows=[("about", "t")])
        self.assertEqual((yard.spots("t"), yard.path("t")), ([("s", "")], [("s", "", "a", "")]))
        yard = yard_with(TO_M, went=1)
        self.does(yard, "about", "t", rows=[("about", "t")])
        self.assertEqual((yard.spots("t"), yard.path("t")), ([("m", "b")], [("m", "b", "a", "")]))
        yard.set_way("t", way(STATION, "ma", "g"))
        self.does(yard, "go", "t", rows=[("went", "t", "g"), ("back", "m")], tells="went")

    def test_refused(self):
        yard = yard_with(TO_M, TO_P, went=2)
        for thing in NO_NAMES + ["u", "g"]:
            self.refused(("NoTrain",), yard, "about", thing)
        self.refused(("NoTurn",), yard, "about", "t")
        yard.go("t")
        self.does(yard, "about", "t", rows=[("about", "t")])


class Go(YardCase):
    def test_went(self):
        yard = yard_with(TO_M, TO_P, P_TO_K, TO_H, length=2)
        for part, back in (("m", ""), ("w", "g"), ("p", "m"), ("v", "w"), ("k", "p"), ("h", "v")):
            rows = [("went", "t", part)] + [("back", one) for one in back]
            self.does(yard, "go", "t", rows=rows, tells="went")
        self.assertEqual((parts(yard, "t"), yard.spots("t")), ("kh", [("k", "a"), ("h", "a")]))

    def test_stop(self):
        yard = yard_with()
        for k in range(2):
            self.does(yard, "go", "t", tells="stop")
        yard.set_way("t", TO_M)
        self.does(yard, "go", "t", rows=[("went", "t", "m"), ("back", "g")], tells="went")
        self.does(yard, "go", "t", tells="stop")

    def test_end(self):
        for routes, went in (((TO_M, TO_Q, TO_S), 5), ((TO_M, TO_P, P_TO_K, TO_H), 6)):
            yard = yard_with(*routes, went=went)
            for k in range(2):
                self.does(yard, "go", "t", tells="end")

    def test_by_what_the_keeper_shows(self):
        yard = yard_with(TO_M, TO_P)
        yard.come("a", 1, "h")
        self.assertEqual([yard.go("t") for k in range(5)], ["went", "went", "went", "stop", "stop"])
        self.assertEqual(yard.go("a"), "stop")
        yard.set_way("a", H_TO_K)
        self.assertEqual([yard.go("a"), yard.go("a"), yard.go("t")], ["went", "stop", "stop"])

    def test_no_train(self):
        yard = yard_with(TO_M)
        for thing in NO_NAMES + ["u", "g"]:
            self.refused(("NoTrain",), yard, "go", thing)

    def test_several_given_back_at_once_are_sorted(self):
        yard = yard_with(TO_M, TO_P)
        yard.fail("g", "stuck")
        for part in "mwp":
            self.does(yard, "go", "t", rows=[("went", "t", part)], tells="went")
        self.does(yard, "mend", rows=[("back", "g"), ("back", "m"), ("back", "w")])
        self.assertEqual(parts(yard, "t"), "p")
        yard = yard_with(TO_M, TO_P, P_TO_K)
        yard.fail("g", "stuck")
        for k in range(5):
            yard.go("t")
        self.does(yard, "mend", rows=[("back", part) for part in "gmpvw"])

    def test_a_look_also_where_it_didnt_go_on(self):
        # Nothing is left to be given back there, unless the keeper's path is made longer behind the train.
        for word, routes, went in (("stop", (TO_M, TO_P), 3), ("end", (TO_M, TO_Q, TO_S), 5)):
            yard = yard_with(*routes, went=went)
            path = [step for route in routes for step in route[1:]]
            yard.keeper.path_of["t"] = list(path)
            rows = [("back", part) for part in sorted([step[0] for step in path[:-1]])]
            self.does(yard, "go", "t", rows=rows, tells=word)


class Leave(YardCase):
    def test_in_a_gate_to_which_it_came(self):
        for length in (1, 2, 3, 4):
            yard = yard_with(TO_M, TO_P, P_TO_K, TO_H, length=length, went=6)
            self.does(yard, "leave", "t", rows=[("leave", "t")])
            self.assertEqual((yard.trains(), yard.paths()), ([], {}))
            self.assertEqual([part for part, taken in yard.taken().items() if taken], [])
            for kind in ("leave", "go", "about", "spots", "path"):
                self.refused(("NoTrain",), yard, kind, "t")
            self.does(yard, "come", "t", 1, "h", rows=[("come", "t", "h")])

    def test_turned_about_where_it_came(self):
        yard = yard_with(length=3)
        self.refused(("NoTurn",), yard, "leave", "t")
        yard.about("t")
        self.does(yard, "leave", "t", rows=[("leave", "t")])
        yard = yard_with(TO_M, length=3, went=1)
        self.refused(("NoTurn",), yard, "leave", "t")
        yard.about("t")
        self.does(yard, "leave", "t", rows=[("leave", "t")])
        self.assertEqual(yard.taken()["m"], False)

    def test_refused(self):
        yard = yard_with(TO_M, TO_P, P_TO_K, TO_H)
        for k in range(6):
            self.refused(("NoTurn",), yard, "leave", "t")
            yard.go("t")
        yard.about("t")
        self.refused(("NoTurn",), yard, "leave", "t")
        yard.about("t")
        self.does(yard, "leave", "t", rows=[("leave", "t")])
        for thing in NO_NAMES + ["t", "g", "h"]:
            self.refused(("NoTrain",), yard, "leave", thing)

    def test_not_in_a_stop(self):
        yard = yard_with(TO_M, TO_Q, TO_S, went=5)
        self.assertEqual(yard.spots("t"), [("s", "a")])
        self.refused(("NoTurn",), yard, "leave", "t")
        yard.about("t")
        self.refused(("NoTurn",), yard, "leave", "t")

    def test_not_by_the_end_a_of_another_part(self):
        yard = yard_with(TO_M, went=1)
        self.assertEqual(yard.spots("t"), [("m", "a")])
        self.refused(("NoTurn",), yard, "leave", "t")

    def test_its_tail_in_a_gate(self):
        yard = yard_with(TO_M, TO_P, P_TO_K, TO_H, length=2, went=6)
        yard.about("t")
        self.assertEqual(yard.spots("t"), [("h", ""), ("k", "b")])
        self.refused(("NoTurn",), yard, "leave", "t")


class FailAndMend(YardCase):
    def test_done(self):
        yard = yard_with()
        self.does(yard, "fail", "g", "blind")
        self.assertEqual((yard.fault(), yard.seen()["g"], yard.taken()["g"]), (("g", "blind"), False, True))
        self.does(yard, "mend")
        self.assertEqual((yard.fault(), yard.seen()["g"]), (None, True))
        self.does(yard, "fail", "k", "stuck")
        self.assertEqual((yard.fault(), yard.seen()["k"], yard.taken()["k"]), (("k", "stuck"), True, False))
        self.does(yard, "mend")
        self.does(yard, "mend")

    def test_refused(self):
        yard = yard_with()
        for thing in NO_NAMES + ["nosuch", "gi"]:
            self.refused(("BadName",), yard, "fail", thing, "blind")
            self.refused(("BadName",), yard, "fail", "g", thing)
        yard.fail("m", "stuck")
        for part in ("m", "g"):
            for word in ("blind", "stuck"):
                self.refused(("OneFault",), yard, "fail", part, word)
            self.refused(("BadName",), yard, "fail", part, "deaf")
        self.refused(("BadName",), yard, "fail", "nosuch", "blind")

    def test_a_look_behind_mend(self):
        yard = yard_with(TO_M, TO_P, length=2)
        yard.fail("m", "stuck")
        for part, rows in (("m", []), ("w", [("back", "g")]), ("p", [])):
            self.does(yard, "go", "t", rows=[("went", "t", part)] + rows, tells="went")
        self.does(yard, "mend", rows=[("back", "m")])

    def test_a_look_behind_what_changes_nothing_that_eyes_tell(self):
        # Nothing is left to be given back there, unless the keeper's path is made longer behind the train.
        for kind, handed in (("fail", ["s", "stuck"]), ("fail", ["g", "blind"]), ("mend", []), ("stiffen", ["w"]),
                             ("loosen", ["w"])):
            yard = yard_with(TO_M, went=1)
            yard.keeper.path_of["t"] = [("g", "", "a", "")] + yard.path("t")
            self.does(yard, kind, *handed, rows=[("back", "g")])
            self.assertEqual(parts(yard, "t"), "m")


class Log(YardCase):
    def test_in_order(self):
        yard = yard_with(TO_M, went=1)
        yard.stiffen("v")
        with self.assertRaises(NoTrain):
            yard.go("u")
        yard.go("t")
        yard.turn("y", "right")
        yard.set_way("t", TO_Q)
        yard.come("a", 2, "h")
        yard.fail("s", "blind")
        yard.go("t")
        yard.go("t")
        yard.about("a")
        yard.leave("a")
        self.assertEqual(yard.log(), [("come", "t", "g"), ("way", "t", TO_M), ("went", "t", "m"), ("back", "g"),
                                      ("turn", "y", "right"), ("way", "t", TO_Q), ("come", "a", "h"),
                                      ("went", "t", "w"), ("back", "m"), ("went", "t", "q"), ("back", "w"),
                                      ("about", "a"), ("leave", "a")])


class Told(YardCase):
    def busy(self):
        yard = yard_with(TO_M, TO_Q, length=2, went=2)
        yard.come("a", 2, "h")
        yard.stiffen("v")
        yard.fail("m", "blind")
        return yard

    def test_no_train(self):
        yard = self.busy()
        for thing in NO_NAMES + ["u", "g"]:
            self.refused(("NoTrain",), yard, "spots", thing)
            self.refused(("NoTrain",), yard, "path", thing)

    def test_no_signal(self):
        yard = self.busy()
        for thing in NO_NAMES + ["t", "nosuch", "m"]:
            self.refused(("BadName",), yard, "shows", thing)

    def test_what_was_told_is_the_askers_own(self):
        yard = self.busy()
        ahead = told_of(yard)
        for kind, handed in (("log", []), ("spots", ["t"]), ("accidents", []), ("taken", []), ("path", ["t"]),
                             ("paths", []), ("lies", []), ("trains", []), ("stiff", []), ("seen", [])):
            told = getattr(yard, kind)(*handed)
            told.clear()
            self.assertEqual(told_of(yard), ahead, kind)
        yard.log().append(("back", "g"))
        yard.spots("t").reverse()
        yard.accidents().append(("crash", "g"))
        yard.taken()["k"] = True
        yard.seen()["k"] = True
        yard.path("t").pop()
        yard.paths()["t"].append(("k", "a", "b", ""))
        yard.paths()["u"] = []
        yard.lies()["w"] = "left"
        yard.trains().append("u")
        yard.stiff().append("y")
        self.assertEqual(told_of(yard), ahead)
        self.does(yard, "go", "t", rows=[("went", "t", "q"), ("back", "m")], tells="went")

    def test_what_was_told_stays(self):
        yard = self.busy()
        ahead = told_of(yard)
        told = (yard.trains(), yard.paths(), yard.lies(), yard.stiff(), None, [yard.spots("a"), yard.spots("t")],
                yard.taken(), yard.accidents(), yard.seen(), yard.fault(), yard.log())
        yard.mend()
        yard.go("t")
        yard.set_way("t", TO_S)
        yard.loosen("v")
        yard.turn("v", "right")
        yard.about("a")
        yard.leave("a")
        dicts = [list(told[place].items()) for place in (1, 2, 6, 8)]
        self.assertEqual(dicts, [ahead[place] for place in (1, 2, 6, 8)])
        for place in (0, 3, 5, 7, 9, 10):
            self.assertEqual(told[place], ahead[place])

    def test_two_yards_of_the_same_tracks(self):
        one, two = Yard(STATION), Yard(STATION)
        ahead = told_of(two)
        one.come("t", 1, "g")
        one.set_way("t", TO_M)
        one.turn("v", "right")
        one.stiffen("y")
        one.fail("g", "blind")
        self.assertEqual(told_of(two), ahead)


class AsTheWordsSay(unittest.TestCase):
    def handed(self, chance, words, kind):
        """Good things to hand in for the most part, and bad ones now and then."""
        tracks, keeper = words.tracks, words.keeper
        names, points = tracks.names(), sorted(keeper.lies)
        train = chance.choice(sorted(keeper.path) + ["z"] * (chance.random() < 0.1 or not keeper.path))
        if kind == "come":
            return [chance.choice("abcdz"), chance.choice([1, 2, 3, 4, 1, 2, 3, 0]), chance.choice(words.gates + names)]
        if kind == "set_way":
            ends = [(path[-1][0], path[-1][2]) for name, path in keeper.path.items() if name == train]
            good = [route for route in keeper.routes if ends and route[0] == tracks.signal_at(ends[0])]
            return [train, chance.choice((good or keeper.routes) if chance.random() < 0.9 else keeper.routes)]
        if kind == "turn":
            return [chance.choice(points + points + names), chance.choice(["left", "right", "left", "right", "stem"])]
        if kind in ("stiffen", "loosen"):
            return [chance.choice(points + points + names)]
        if kind == "fail":
            return [chance.choice(names + words.gates + points + points + ["zz"]),
                    chance.choice(["blind", "stuck", "blind", "stuck", "deaf"])]
        return [] if kind == "mend" else [train]

    def test_in_many_yards(self):
        chance = random.Random(18)
        found = {}
        yards = [STATION, STATION, fork()] * 8 + some_yards() + [drawn_yard(chance) for k in range(80)]
        for tracks in yards:
            yard, words = Yard(tracks), YardWords(tracks)
            words.gates = [name for name in tracks.names() if tracks.signal_at((name, "a")) and
                           tracks.named(name).ends() == ["a"]] * 3
            if not words.gates or not words.keeper.routes:
                continue
            for k in range(150):
                kind = chance.choice(["come", "come", "turn", "stiffen", "loosen", "about", "leave", "fail"] +
                                     ["mend"] * (k % 3 == 0) + ["set_way"] * 6 + ["go"] * 12)
                handed = self.handed(chance, words, kind)
                came = words.deed(kind, *handed)
                self.assertEqual(outcome(getattr(yard, kind), *handed), came, (kind, handed))
                self.assertEqual(told_of(yard), words.told(), (kind, handed))
                word = came[-1] if kind == "go" else came[0]
                found[(kind, word)] = found.get((kind, word), 0) + 1
        for kind, words in (("come", "told BadName BadEnd TooMany Held Seen"), ("turn", "told BadName Held Seen Stiff"),
                            ("set_way", "told NoTrain BadWay Held Seen Stiff"), ("stiffen", "told BadName"),
                            ("loosen", "told BadName"), ("about", "told NoTrain NoTurn"),
                            ("go", "went stop end NoTrain"), ("leave", "told NoTrain NoTurn"),
                            ("fail", "told BadName OneFault"), ("mend", "told")):
            for word in words.split():
                self.assertGreater(found.get((kind, word), 0), 2, (kind, word))
