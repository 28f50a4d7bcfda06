"""The keeper (points 2, 3, 9, 11 and 15 to 17)."""

import inspect
import random
import unittest

from tests.helper import (H_TO_K, K_TO_P, K_TO_Q, NO_LENGTHS, NO_NAMES, P_TO_K, Q_TO_K, STATION, TO_H, TO_M, TO_P,
                          TO_Q, TO_S, drawn_yard, eight, fork, line, loop, outcome, some_yards, way)
from tests.words import KeeperWords
from yardkeep.keeper import Keeper
from yardkeep.routes import routes_from
from yardkeep.tracks import Tracks

DONE = ("told", None)
GATE_STEP = ("g", "", "a", "")


def told_of(keeper):
    """All that a keeper tells, in lists of its own, whatever those are that the keeper gave."""
    trains = list(keeper.trains())
    return (trains, [(train, list(path)) for train, path in keeper.paths().items()],
            [keeper.length(train) for train in trains], list(keeper.lies().items()), list(keeper.stiff()),
            [keeper.shows(signal[0]) for signal in keeper.tracks.signals()])


def keeper_with(*routes, length=1):
    """A keeper of the station to whose gate g the train t came, for which these ways were set."""
    keeper = Keeper(STATION)
    keeper.come("t", length, "g", {})
    for route in routes:
        keeper.set_way("t", route, {})
    return keeper


def parts(keeper, train):
    return "".join([step[0] for step in keeper.path(train)])


def told_taken(*names):
    return dict([(name, name in names) for name in STATION.names()])


class KeeperCase(unittest.TestCase):
    def refused(self, came, keeper, kind, *handed):
        """It is refused so, and changes nothing."""
        ahead = told_of(keeper)
        self.assertEqual(outcome(getattr(keeper, kind), *handed), came, (kind, handed))
        self.assertEqual(told_of(keeper), ahead, (kind, handed))

    def done(self, keeper, kind, *handed):
        self.assertEqual(outcome(getattr(keeper, kind), *handed), DONE, (kind, handed))


class Interface(unittest.TestCase):
    def test_arguments(self):
        self.assertEqual(str(inspect.signature(Keeper)), "(tracks)")
        keeper = Keeper(STATION)
        for kind, told in (("come", "(train, length, gate, seen)"), ("set_way", "(train, route, seen)"),
                           ("turn", "(points, lie, seen)"), ("stiffen", "(points)"), ("loosen", "(points)"),
                           ("look", "(seen)"), ("about", "(train)"), ("leave", "(train)"), ("shows", "(signal)"),
                           ("path", "(train)"), ("paths", "()"), ("lies", "()"), ("stiff", "()"),
                           ("length", "(train)"), ("trains", "()")):
            self.assertEqual(str(inspect.signature(getattr(keeper, kind))), told, kind)

    def test_at_first(self):
        for tracks in some_yards() + [STATION, Tracks([], [])]:
            points = [name for name in tracks.names() if len(tracks.named(name).lies()) == 2]
            self.assertEqual(told_of(Keeper(tracks)), ([], [], [], [(name, "left") for name in points], [],
                                                       [False] * len(tracks.signals())))

    def test_kinds(self):
        keeper = keeper_with(TO_M)
        self.assertEqual([type(told) for told in (keeper.path("t"), keeper.paths(), keeper.paths()["t"], keeper.lies(),
                                                  keeper.stiff(), keeper.trains(), keeper.look({}))],
                         [list, dict, list, dict, list, list, list])
        self.assertEqual([type(step) for step in keeper.path("t")], [tuple, tuple])
        self.assertIs(keeper.shows("gi"), True)
        self.assertIs(keeper.shows("mb"), False)


class Come(KeeperCase):
    def test_its_path_and_its_length(self):
        for length in (1, 2, 3, 4):
            for gate in ("g", "h"):
                keeper = Keeper(STATION)
                self.done(keeper, "come", "t1", length, gate, {})
                self.assertEqual(keeper.path("t1"), [(gate, "", "a", "")])
                self.assertEqual(keeper.paths(), {"t1": [(gate, "", "a", "")]})
                self.assertEqual((keeper.length("t1"), keeper.trains()), (length, ["t1"]))
                self.assertEqual([keeper.shows(row[0]) for row in STATION.signals()], [False] * 11)

    def test_names_as_those_of_parts_and_signals(self):
        keeper = Keeper(STATION)
        self.done(keeper, "come", "g", 1, "g", {})
        self.done(keeper, "come", "gi", 2, "h", {})
        self.assertEqual(keeper.trains(), ["g", "gi"])

    def test_no_name(self):
        for thing in NO_NAMES:
            self.refused(("BadName",), Keeper(STATION), "come", thing, 1, "g", {})

    def test_a_train_that_is_there(self):
        for keeper in (keeper_with(), keeper_with(TO_M, TO_P)):
            for gate in ("g", "h"):
                self.refused(("BadName",), keeper, "come", "t", 1, gate, {})

    def test_no_gate(self):
        for thing in NO_NAMES + ["m", "s", "w", "nosuch", "gi", "t", "g ", "G"]:
            self.refused(("BadEnd",), Keeper(STATION), "come", "t", 1, thing, {})

    def test_a_gate_without_a_signal(self):
        for signals in ([], [("s", "s", "a"), ("p", "p0", "a"), ("g", "p0", "b")]):
            self.refused(("BadEnd",), Keeper(line(1, signals)), "come", "t", 1, "g", {})
        self.done(Keeper(line(1, [("s", "g", "a")])), "come", "t", 1, "g", {})

    def test_no_length(self):
        for thing in NO_LENGTHS:
            self.refused(("TooMany",), Keeper(STATION), "come", "t", thing, "g", {})

    def test_a_gate_that_stands_in_a_path(self):
        self.refused(("Held", "g"), keeper_with(), "come", "u", 1, "g", {})
        self.refused(("Held", "g"), keeper_with(TO_M, TO_P), "come", "u", 4, "g", told_taken("p"))
        keeper = keeper_with(TO_M, TO_P, P_TO_K, TO_H)
        self.refused(("Held", "h"), keeper, "come", "u", 1, "h", {})
        keeper.look(told_taken("h"))
        self.refused(("Held", "h"), keeper, "come", "u", 1, "h", {})
        self.done(keeper, "come", "u", 1, "g", told_taken("h"))

    def test_a_gate_that_is_told_taken(self):
        for seen in ({"g": True}, told_taken("g"), told_taken("g", "h", "m")):
            self.refused(("Seen", "g"), Keeper(STATION), "come", "t", 1, "g", seen)
        self.done(Keeper(STATION), "come", "t", 1, "g", told_taken("h", "m", "w"))
        self.done(Keeper(STATION), "come", "t", 1, "g", {"g": False})

    def test_several_in_their_order(self):
        keeper = keeper_with()
        seen = {"g": True}
        for name in ("t", "", None, ["t"]):
            for length, gate in ((5, "nosuch"), (1, "nosuch"), (5, "g"), (1, "g"), (1, "h"), (True, ["g"])):
                self.refused(("BadName",), keeper, "come", name, length, gate, seen)
        for length in NO_LENGTHS:
            for gate in ("m", "nosuch", ["g"], None):
                self.refused(("BadEnd",), keeper, "come", "u", length, gate, seen)
            self.refused(("TooMany",), keeper, "come", "u", length, "g", seen)
            self.refused(("BadEnd",), Keeper(line(1, [])), "come", "u", length, "g", seen)
        self.refused(("Held", "g"), keeper, "come", "u", 1, "g", seen)
        self.refused(("Seen", "g"), Keeper(STATION), "come", "u", 1, "g", seen)

    def test_what_was_refused_is_done_when_it_is_good(self):
        keeper = keeper_with(TO_M)
        self.refused(("Held", "g"), keeper, "come", "u", 2, "g", told_taken("m", "g"))
        keeper.look(told_taken("m"))
        self.refused(("Seen", "g"), keeper, "come", "u", 2, "g", told_taken("m", "g"))
        self.done(keeper, "come", "u", 2, "g", told_taken("m"))
        self.assertEqual(keeper.paths(), {"t": [TO_M[1]], "u": [GATE_STEP]})

    def test_a_train_that_left_comes_again(self):
        keeper = keeper_with(TO_M, TO_Q, length=3)
        keeper.leave("t")
        self.done(keeper, "come", "t", 1, "h", {})
        self.assertEqual((keeper.path("t"), keeper.length("t"), keeper.trains()), ([("h", "", "a", "")], 1, ["t"]))
        keeper.leave("t")
        self.done(keeper, "come", "t", 4, "g", {})
        self.assertEqual((keeper.path("t"), keeper.length("t")), ([GATE_STEP], 4))

    def test_no_parts(self):
        self.refused(("BadEnd",), Keeper(Tracks([], [])), "come", "t", 1, "g", {})


class SetWay(KeeperCase):
    def test_its_steps_stand_behind_the_paths(self):
        keeper = keeper_with()
        self.done(keeper, "set_way", "t", TO_M, {})
        self.assertEqual(keeper.path("t"), [GATE_STEP, ("m", "a", "b", "")])
        self.done(keeper, "set_way", "t", TO_Q, told_taken("g"))
        self.assertEqual(keeper.path("t"), [GATE_STEP, ("m", "a", "b", ""), ("w", "stem", "right", "right"),
                                            ("q", "a", "b", "")])
        self.done(keeper, "set_way", "t", TO_S, told_taken("g", "m"))
        self.assertEqual(keeper.path("t"), [GATE_STEP] + list(TO_M[1:] + TO_Q[1:] + TO_S[1:]))

    def test_its_points_lie_as_it_needs_and_all_others_as_they_did(self):
        for lies in ({"v": "left", "w": "left", "y": "right"}, {"v": "right", "w": "right", "y": "left"}):
            for route, needs in ((TO_P, {"w": "left"}), (TO_Q, {"w": "right"})):
                keeper = keeper_with(TO_M)
                for points, lie in lies.items():
                    keeper.turn(points, lie, {})
                self.done(keeper, "set_way", "t", route, {})
                self.assertEqual(list(keeper.lies().items()), list(dict(lies, **needs).items()))
        keeper = keeper_with(TO_M, TO_Q)
        self.done(keeper, "set_way", "t", Q_TO_K, {})
        self.assertEqual(list(keeper.lies().items()), [("v", "right"), ("w", "right"), ("y", "left")])

    def test_another_train(self):
        keeper = keeper_with(TO_M, TO_P)
        keeper.come("a", 2, "h", {})
        self.done(keeper, "set_way", "a", H_TO_K, told_taken("g", "h"))
        self.assertEqual(list(keeper.paths().items()), [("a", [("h", "", "a", ""), ("k", "b", "a", "")]),
                                                        ("t", [GATE_STEP] + list(TO_M[1:] + TO_P[1:]))])

    def test_no_train(self):
        keeper = keeper_with()
        for thing in NO_NAMES + ["u", "g", "gi"]:
            for route in (TO_M, TO_P, None, ("gi",)):
                self.refused(("NoTrain",), keeper, "set_way", thing, route, {"m": True})

    def test_no_route(self):
        keeper = keeper_with(TO_M)
        step, last = TO_P[1:]
        for thing in (None, True, False, 0, 1, "mb", "", [], (), ("mb",), ["mb"], ("mb", None), ("mb", []),
                      ("mb", ()), ("mb", "w", "p"), list(TO_P), ("mb", list(step), last), ("mb", (step, last)),
                      ("mb", step), ("mb", last), ("mb", last, step), TO_P + P_TO_K[1:], TO_P + (last,),
                      ("mb", step, step, last), ("", step, last), ("nosuch", step, last), (None, step, last),
                      (["mb"], step, last), ("MB", step, last), (0, step, last), ("m", step, last)):
            self.refused(("BadWay",), keeper, "set_way", "t", thing, {})

    def test_a_spoilt_route(self):
        keeper = keeper_with(TO_M)
        for place in (1, 2):
            for column in range(4):
                for word in ("", "a", "b", "left", "right", "stem", "w", "p", "q", "nosuch", None, 0, [], True):
                    step = TO_P[place][:column] + (word,) + TO_P[place][column + 1:]
                    route = TO_P[:place] + (step,) + TO_P[place + 1:]
                    if route != TO_P:
                        self.refused(("BadWay",), keeper, "set_way", "t", route, {})
            route = TO_P[:place] + (TO_P[place] + ("",),) + TO_P[place + 1:]
            self.refused(("BadWay",), keeper, "set_way", "t", route, {})
        self.done(keeper, "set_way", "t", TO_P, {})

    def test_a_route_from_another_signal(self):
        keeper = keeper_with(TO_M)
        for signal in [row[0] for row in STATION.signals()]:
            for route in routes_from(STATION, signal):
                if signal != "mb":
                    self.refused(("BadWay",), keeper, "set_way", "t", route, {})
        # From a step that has another one behind it no way goes on, and none from the part's other end.
        self.assertEqual(way(STATION, "ma", "g")[0], "ma")
        self.refused(("BadWay",), keeper, "set_way", "t", TO_M, {})

    def test_where_the_track_ends(self):
        keeper = keeper_with(TO_M, TO_Q, TO_S)
        for signal in [row[0] for row in STATION.signals()]:
            for route in routes_from(STATION, signal):
                self.refused(("BadWay",), keeper, "set_way", "t", route, {})

    def test_no_route_ahead_of_what_stands_against_it(self):
        keeper = keeper_with(TO_M)
        keeper.come("u", 1, "h", {})
        keeper.stiffen("w")
        seen = told_taken(*STATION.names())
        for route in (H_TO_K, P_TO_K, TO_H, TO_M, TO_Q[:2], TO_Q + TO_S[1:]):
            self.refused(("BadWay",), keeper, "set_way", "t", route, seen)

    def test_held(self):
        keeper = keeper_with(TO_M, TO_P)
        keeper.come("u", 1, "h", {})
        keeper.set_way("u", H_TO_K, {})
        self.refused(("Held", "p"), keeper, "set_way", "u", K_TO_P, {})
        self.refused(("Held", "k"), keeper, "set_way", "t", P_TO_K, {})
        self.done(keeper, "set_way", "u", K_TO_Q, {})
        self.refused(("Held", "v"), keeper, "set_way", "t", P_TO_K, {})

    def test_held_by_itself(self):
        tracks = loop([("in", "g", "a"), ("l", "l", "b")])
        keeper = Keeper(tracks)
        keeper.come("t", 1, "g", {})
        keeper.set_way("t", way(tracks, "in", "l"), {})
        back = way(tracks, "l", "g")
        self.refused(("Held", "w"), keeper, "set_way", "t", back, {})
        self.assertEqual(keeper.look({"l": True}), ["g", "w"])
        self.done(keeper, "set_way", "t", back, {"l": True})
        self.assertEqual((keeper.path("t"), keeper.lies()), ([("l", "a", "b", "")] + list(back[1:]), {"w": "right"}))

    def test_a_cross_is_held_whichever_way(self):
        both = [("in", "g", "a"), ("out", "s", "a"), ("l", "l", "b"), ("k", "l", "a")]
        tracks = eight(both)
        keeper = Keeper(tracks)
        keeper.come("t", 1, "g", {})
        keeper.set_way("t", way(tracks, "in", "l"), {})
        self.refused(("Held", "x"), keeper, "set_way", "t", way(tracks, "l", "s"), {})
        keeper.look({"l": True})
        self.done(keeper, "set_way", "t", way(tracks, "l", "s"), {"l": True})

    def test_taken(self):
        keeper = keeper_with(TO_M)
        self.refused(("Seen", "w"), keeper, "set_way", "t", TO_P, {"w": True})
        self.refused(("Seen", "p"), keeper, "set_way", "t", TO_P, {"p": True})
        self.refused(("Seen", "w"), keeper, "set_way", "t", TO_P, told_taken(*STATION.names()))
        self.done(keeper, "set_way", "t", TO_P, told_taken("g", "m", "q", "v", "y", "s", "k", "h"))

    def test_stiff(self):
        keeper = keeper_with(TO_M)
        keeper.stiffen("w")
        self.refused(("Stiff", "w"), keeper, "set_way", "t", TO_Q, {})
        self.done(keeper, "set_way", "t", TO_P, {})
        keeper = keeper_with(TO_M)
        keeper.stiffen("v")
        self.done(keeper, "set_way", "t", TO_Q, {})
        self.refused(("Stiff", "v"), keeper, "set_way", "t", Q_TO_K, {})
        keeper.loosen("v")
        self.done(keeper, "set_way", "t", Q_TO_K, {})

    def test_which_stands_against_it_first(self):
        keeper = keeper_with(TO_M, TO_Q)
        for points in ("v", "y"):
            keeper.stiffen(points)
        keeper.come("u", 1, "h", {})
        keeper.set_way("u", H_TO_K, {})
        # The steps are y, v, k: y lies so, v is to be turned, k is held.
        self.refused(("Stiff", "v"), keeper, "set_way", "t", Q_TO_K, {"k": True})
        self.refused(("Seen", "v"), keeper, "set_way", "t", Q_TO_K, {"v": True, "k": True})
        self.refused(("Seen", "y"), keeper, "set_way", "t", Q_TO_K, {"y": True, "v": True, "k": True})
        keeper.loosen("v")
        self.refused(("Held", "k"), keeper, "set_way", "t", Q_TO_K, {"k": True})
        keeper.set_way("u", K_TO_P, {})
        self.refused(("Held", "v"), keeper, "set_way", "t", Q_TO_K, {"v": True, "k": True})
        keeper.loosen("y")
        self.done(keeper, "turn", "y", "right", {})
        keeper.stiffen("y")
        self.refused(("Stiff", "y"), keeper, "set_way", "t", Q_TO_K, {"v": True, "k": True})

    def test_what_was_refused_is_done_when_it_is_good(self):
        keeper = keeper_with(TO_M)
        keeper.stiffen("w")
        for seen, came in (({"q": True}, ("Stiff", "w")), ({"w": True}, ("Seen", "w"))):
            self.refused(came, keeper, "set_way", "t", TO_Q, seen)
        keeper.loosen("w")
        self.refused(("Seen", "q"), keeper, "set_way", "t", TO_Q, {"q": True})
        self.assertEqual(keeper.lies()["w"], "left")
        self.done(keeper, "set_way", "t", TO_Q, {"q": False})
        self.assertEqual((parts(keeper, "t"), keeper.lies()["w"]), ("gmwq", "right"))


class Turn(KeeperCase):
    def test_turned(self):
        keeper = Keeper(STATION)
        self.done(keeper, "turn", "w", "right", {})
        self.assertEqual(list(keeper.lies().items()), [("v", "left"), ("w", "right"), ("y", "left")])
        self.done(keeper, "turn", "w", "right", {})
        self.done(keeper, "turn", "v", "right", told_taken("w", "y", "k"))
        self.assertEqual(list(keeper.lies().items()), [("v", "right"), ("w", "right"), ("y", "left")])
        self.done(keeper, "turn", "w", "left", {})
        self.assertEqual(list(keeper.lies().items()), [("v", "right"), ("w", "left"), ("y", "left")])

    def test_no_such_points(self):
        for thing in NO_NAMES + ["m", "g", "s", "nosuch", "gi", "t", "W", ["w"]]:
            for lie in ("left", "right", "", "stem", None):
                self.refused(("BadName",), keeper_with(), "turn", thing, lie, {})

    def test_no_such_lie(self):
        keeper = keeper_with(TO_M, TO_P)
        keeper.stiffen("v")
        for thing in NO_NAMES + ["stem", "Left", "left ", "a", "w", ["left"], ("right",)]:
            for points in ("w", "v", "y"):
                self.refused(("BadName",), keeper, "turn", points, thing, told_taken("w", "v", "y"))

    def test_held_then_taken_then_stiff(self):
        keeper = keeper_with(TO_M, TO_P)
        keeper.stiffen("w")
        for lie in ("left", "right"):
            self.refused(("Held", "w"), keeper, "turn", "w", lie, {"w": True})
            self.refused(("Held", "w"), keeper, "turn", "w", lie, {})
        keeper.look({"p": True})
        for lie in ("left", "right"):
            self.refused(("Seen", "w"), keeper, "turn", "w", lie, {"w": True})
            self.refused(("Stiff", "w"), keeper, "turn", "w", lie, {"p": True})
        keeper.loosen("w")
        for lie in ("left", "right"):
            self.refused(("Seen", "w"), keeper, "turn", "w", lie, {"w": True})
        self.done(keeper, "turn", "w", "left", {"p": True})
        self.done(keeper, "turn", "w", "right", {"p": True})
        self.assertEqual(keeper.lies()["w"], "right")

    def test_other_points_count_for_nothing(self):
        keeper = keeper_with(TO_M, TO_P)
        keeper.stiffen("y")
        self.done(keeper, "turn", "v", "right", told_taken("w", "y", "p", "k"))


class StiffAndLoose(KeeperCase):
    def test_sorted_and_as_often_as_asked(self):
        keeper = Keeper(STATION)
        for points, stiff in (("y", ["y"]), ("v", ["v", "y"]), ("v", ["v", "y"]), ("w", ["v", "w", "y"])):
            self.done(keeper, "stiffen", points)
            self.assertEqual(keeper.stiff(), stiff)
        for points, stiff in (("v", ["w", "y"]), ("v", ["w", "y"]), ("y", ["w"]), ("w", []), ("w", [])):
            self.done(keeper, "loosen", points)
            self.assertEqual(keeper.stiff(), stiff)
        self.done(keeper, "stiffen", "v")
        self.assertEqual(keeper.stiff(), ["v"])

    def test_stiff_twice_is_loosened_at_once(self):
        keeper = Keeper(STATION)
        keeper.stiffen("w")
        keeper.stiffen("w")
        keeper.loosen("w")
        self.done(keeper, "turn", "w", "right", {})

    def test_no_such_points(self):
        keeper = keeper_with(TO_M)
        keeper.stiffen("w")
        for thing in NO_NAMES + ["m", "g", "s", "nosuch", "gi", "t", "W", ["w"]]:
            self.refused(("BadName",), keeper, "stiffen", thing)
            self.refused(("BadName",), keeper, "loosen", thing)

    def test_also_where_they_are_held(self):
        keeper = keeper_with(TO_M, TO_P)
        self.done(keeper, "stiffen", "w")
        self.done(keeper, "loosen", "w")
        self.assertEqual((keeper.stiff(), parts(keeper, "t"), keeper.lies()["w"]), ([], "gmwp", "left"))

    def test_they_stay_as_they_lie(self):
        keeper = Keeper(STATION)
        keeper.turn("w", "right", {})
        keeper.stiffen("w")
        keeper.loosen("w")
        self.assertEqual(keeper.lies(), {"v": "left", "w": "right", "y": "left"})


class Look(KeeperCase):
    def test_as_far_as_the_train_is_long(self):
        for length, back in ((1, "gmw"), (2, "gm"), (3, "g"), (4, "")):
            keeper = keeper_with(TO_M, TO_P, length=length)
            self.assertEqual(keeper.look({"p": True}), sorted(back))
            self.assertEqual(parts(keeper, "t"), "gmwp"[len(back):])

    def test_step_by_step(self):
        keeper = keeper_with(TO_M, TO_P, P_TO_K, TO_H, length=2)
        for taken, back, path in (("g", "", "gmwpvkh"), ("gm", "", "gmwpvkh"), ("mw", "g", "mwpvkh"),
                                  ("wp", "m", "wpvkh"), ("pv", "w", "pvkh"), ("vk", "p", "vkh"), ("kh", "v", "kh")):
            self.assertEqual(keeper.look(told_taken(*taken)), list(back))
            self.assertEqual(parts(keeper, "t"), path)

    def test_the_same_again_gives_nothing_back(self):
        keeper = keeper_with(TO_M, TO_P, P_TO_K, length=2)
        for taken in ("wp", "vk"):
            self.assertNotEqual(keeper.look(told_taken(*taken)), [])
            ahead = told_of(keeper)
            self.assertEqual(keeper.look(told_taken(*taken)), [])
            self.assertEqual(told_of(keeper), ahead)

    def several(self):
        keeper = keeper_with(TO_M, TO_Q, TO_S)
        keeper.come("a", 1, "h", {})
        keeper.set_way("a", H_TO_K, {})
        keeper.set_way("a", K_TO_P, {})
        return keeper

    def test_several_trains(self):
        keeper = self.several()
        self.assertEqual(keeper.look(told_taken("y", "v")), ["g", "h", "k", "m", "q", "w"])
        self.assertEqual((parts(keeper, "t"), parts(keeper, "a")), ("ys", "vp"))
        keeper = self.several()
        self.assertEqual(keeper.look(told_taken("m", "h")), ["g"])
        self.assertEqual((parts(keeper, "t"), parts(keeper, "a")), ("mwqys", "hkvp"))

    def test_nobody_and_nothing_told(self):
        self.assertEqual(Keeper(STATION).look(told_taken("g", "m")), [])
        keeper = self.several()
        ahead = told_of(keeper)
        for seen in ({}, told_taken(), {"nosuch": True}):
            self.assertEqual(keeper.look(seen), [])
        self.assertEqual(told_of(keeper), ahead)

    def test_everything_told(self):
        keeper = self.several()
        self.assertEqual(keeper.look(told_taken(*STATION.names())), [])
        self.assertEqual((parts(keeper, "t"), parts(keeper, "a")), ("gmwqys", "hkvp"))

    def test_an_eye_that_is_blind(self):
        # The train stands on w and p, and of one of these parts the eye tells nothing.
        for taken, back in (("w", "g"), ("p", "gm")):
            keeper = keeper_with(TO_M, TO_P, P_TO_K, length=2)
            self.assertEqual(keeper.look(told_taken(*taken)), list(back))

    def test_an_eye_that_is_stuck(self):
        # The train stands on w and p; a part behind it keeps itself and what lies ahead of it, none ahead takes more.
        for stuck, back in (("g", ""), ("m", "g"), ("v", "gm"), ("k", "gm"), ("s", "gm")):
            keeper = keeper_with(TO_M, TO_P, P_TO_K, length=2)
            self.assertEqual(keeper.look(told_taken("w", "p", stuck)), list(back))

    def test_the_last_step_stays(self):
        for length in (1, 2, 3, 4):
            keeper = keeper_with(TO_M, TO_P, length=length)
            for part in "gmwpp":
                keeper.look({part: True})
            self.assertEqual(parts(keeper, "t")[-1], "p")
            self.assertGreaterEqual(len(parts(keeper, "t")), length)

    def test_signals_behind_the_train_and_what_is_free_then(self):
        keeper = keeper_with(TO_M, TO_P)
        self.assertTrue(keeper.shows("gi") and keeper.shows("mb"))
        self.assertEqual(keeper.look({"m": True}), ["g"])
        self.assertFalse(keeper.shows("gi"))
        self.done(keeper, "come", "u", 1, "g", {"m": True})
        self.refused(("Held", "m"), keeper, "set_way", "u", TO_M, {"m": True})
        self.assertEqual(keeper.look({"w": True}), ["m"])
        self.done(keeper, "set_way", "u", TO_M, {"w": True})
        self.assertEqual((parts(keeper, "t"), parts(keeper, "u")), ("wp", "gm"))


class About(KeeperCase):
    def test_no_train(self):
        for thing in NO_NAMES + ["u", "g", "gi"]:
            self.refused(("NoTrain",), keeper_with(TO_M), "about", thing)

    def test_from_a_gate(self):
        keeper = keeper_with()
        self.done(keeper, "about", "t")
        self.assertEqual(keeper.path("t"), [("g", "a", "", "")])
        self.done(keeper, "about", "t")
        self.assertEqual(keeper.path("t"), [GATE_STEP])

    def test_with_a_way_ahead(self):
        keeper = keeper_with(TO_M, TO_Q)
        self.done(keeper, "about", "t")
        self.assertEqual(keeper.path("t"), [("q", "b", "a", ""), ("w", "right", "stem", "right"), ("m", "b", "a", ""),
                                            ("g", "a", "", "")])
        self.assertEqual([row[0] for row in STATION.signals() if keeper.shows(row[0])], ["ma", "qa"])
        self.assertEqual(keeper.look(told_taken("g")), ["m", "q", "w"])

    def test_from_a_stop(self):
        keeper = keeper_with(TO_M, TO_Q, TO_S)
        keeper.look({"s": True})
        self.assertEqual(parts(keeper, "t"), "s")
        self.done(keeper, "about", "t")
        self.assertEqual(keeper.path("t"), [("s", "", "a", "")])
        self.done(keeper, "set_way", "t", way(STATION, "so", "q"), {"s": True})
        self.assertEqual(parts(keeper, "t"), "syq")

    def test_with_a_signal_behind(self):
        keeper = keeper_with(TO_M)
        keeper.look({"m": True})
        self.done(keeper, "about", "t")
        self.assertEqual(keeper.path("t"), [("m", "b", "a", "")])
        self.done(keeper, "set_way", "t", way(STATION, "ma", "g"), {"m": True})
        self.assertEqual(keeper.path("t"), [("m", "b", "a", ""), ("g", "a", "", "")])

    def test_without_a_signal_behind(self):
        keeper = keeper_with(TO_M, TO_P)
        keeper.look({"w": True})
        self.assertEqual(parts(keeper, "t"), "wp")
        self.refused(("NoTurn",), keeper, "about", "t")
        keeper.look({"p": True})
        self.done(keeper, "about", "t")
        self.assertEqual(keeper.path("t"), [("p", "b", "a", "")])

    def test_a_signal_at_the_other_end_counts_for_nothing(self):
        tracks = line(2, [("in", "g", "a"), ("up", "p0", "b"), ("s", "s", "a")])
        keeper = Keeper(tracks)
        keeper.come("t", 1, "g", {})
        keeper.set_way("t", way(tracks, "in", "p0"), {})
        self.assertEqual(keeper.look({"p0": True}), ["g"])
        self.refused(("NoTurn",), keeper, "about", "t")
        keeper.set_way("t", way(tracks, "up", "s"), {"p0": True})
        self.assertEqual(keeper.look({"p1": True}), ["p0"])
        self.refused(("NoTurn",), keeper, "about", "t")
        self.assertEqual(keeper.look({"s": True}), ["p1"])
        self.done(keeper, "about", "t")

    def test_at_a_stop_without_a_signal(self):
        tracks = line(0, [("in", "g", "a")])
        keeper = Keeper(tracks)
        keeper.come("t", 1, "g", {})
        keeper.set_way("t", way(tracks, "in", "s"), {})
        self.assertEqual(keeper.look({"s": True}), ["g"])
        self.refused(("NoTurn",), keeper, "about", "t")

    def test_twice(self):
        for routes in ((), (TO_M,), (TO_M, TO_P), (TO_M, TO_Q, TO_S), (TO_M, TO_Q, Q_TO_K, TO_H)):
            keeper = keeper_with(*routes, length=2)
            ahead = told_of(keeper)
            self.done(keeper, "about", "t")
            self.assertNotEqual(told_of(keeper), ahead)
            self.done(keeper, "about", "t")
            self.assertEqual(told_of(keeper), ahead)

    def test_the_others_stay_as_they_are(self):
        keeper = keeper_with(TO_M)
        keeper.come("a", 3, "h", {})
        keeper.about("t")
        self.assertEqual(list(keeper.paths().items()), [("a", [("h", "", "a", "")]),
                                                        ("t", [("m", "b", "a", ""), ("g", "a", "", "")])])
        self.assertEqual((keeper.length("a"), keeper.length("t")), (3, 1))


class Leave(KeeperCase):
    def test_it_is_forgotten_and_its_path_too(self):
        for routes in ((), (TO_M,), (TO_M, TO_Q, Q_TO_K)):
            keeper = keeper_with(*routes)
            keeper.come("u", 2, "h", {})
            lies = keeper.lies()
            self.done(keeper, "leave", "t")
            self.assertEqual((keeper.paths(), keeper.lies()), ({"u": [("h", "", "a", "")]}, lies))
            self.assertEqual((keeper.trains(), keeper.length("u")), (["u"], 2))
            for kind in ("path", "length", "about", "leave"):
                self.refused(("NoTrain",), keeper, kind, "t")
            self.refused(("NoTrain",), keeper, "set_way", "t", TO_M, {})
            self.assertFalse(keeper.shows("gi"))
            self.done(keeper, "turn", "w", "right", {})
            self.done(keeper, "come", "v", 1, "g", {})
            self.assertEqual(keeper.look({"g": True}), [])

    def test_no_train(self):
        for kind in ("leave", "path", "length"):
            for thing in NO_NAMES + ["u", "g", "gi"]:
                self.refused(("NoTrain",), keeper_with(TO_M), kind, thing)


class Shows(KeeperCase):
    def shown(self, keeper):
        return [row[0] for row in STATION.signals() if keeper.shows(row[0])]

    def test_a_step_with_another_one_behind_it(self):
        for routes, shown in (((), []), ((TO_M,), ["gi"]), ((TO_M, TO_P), ["gi", "mb"]),
                              ((TO_M, TO_Q, Q_TO_K), ["gi", "mb", "qb"]),
                              ((TO_M, TO_Q, Q_TO_K, TO_H), ["gi", "kb", "mb", "qb"])):
            self.assertEqual(self.shown(keeper_with(*routes)), shown)

    def test_in_some_path(self):
        keeper = keeper_with(TO_M)
        keeper.come("a", 1, "h", {})
        self.assertEqual(self.shown(keeper), ["gi"])
        keeper.set_way("a", H_TO_K, {})
        self.assertEqual(self.shown(keeper), ["gi", "hi"])
        keeper.set_way("a", K_TO_Q, {})
        self.assertEqual(self.shown(keeper), ["gi", "hi", "ka"])
        keeper.leave("t")
        self.assertEqual(self.shown(keeper), ["hi", "ka"])

    def test_no_path(self):
        self.assertEqual(self.shown(Keeper(STATION)), [])

    def test_bad_name(self):
        for thing in NO_NAMES + ["t", "g", "nosuch", "GI"]:
            self.refused(("BadName",), keeper_with(TO_M), "shows", thing)


class Told(KeeperCase):
    def busy(self):
        keeper = keeper_with(TO_M, TO_Q)
        keeper.come("a", 2, "h", {})
        keeper.stiffen("w")
        return keeper

    def test_sorted_by_names(self):
        tracks = fork()
        keeper = Keeper(tracks)
        keeper.come("z", 1, "g", {})
        keeper.set_way("z", way(tracks, "in", "p"), {})
        keeper.look({"p": True})
        keeper.come("b", 1, "h", {})
        keeper.come("c", 1, "g", {})
        self.assertEqual((keeper.trains(), list(keeper.paths())), (["b", "c", "z"], ["b", "c", "z"]))
        keeper.about("z")
        keeper.look({"p": True})
        self.assertEqual((keeper.trains(), list(keeper.paths())), (["b", "c", "z"], ["b", "c", "z"]))

    def test_what_was_told_is_the_askers_own(self):
        keeper = self.busy()
        ahead = told_of(keeper)
        for kind, handed in (("path", ["t"]), ("paths", []), ("lies", []), ("stiff", []), ("trains", []),
                             ("look", [{}])):
            told = getattr(keeper, kind)(*handed)
            told.clear()
            self.assertEqual(told_of(keeper), ahead, kind)
        keeper.path("t").append(("k", "a", "b", ""))
        keeper.path("t").reverse()
        keeper.paths()["t"].pop()
        keeper.paths()["a"][0] = GATE_STEP
        keeper.paths()["u"] = []
        keeper.lies()["w"] = "left"
        keeper.stiff().append("y")
        keeper.trains().append("u")
        self.assertEqual(told_of(keeper), ahead)
        self.assertEqual(keeper.look(told_taken("w", "h")), ["g", "m"])

    def test_what_was_told_stays(self):
        keeper = self.busy()
        ahead = told_of(keeper)
        told = (keeper.trains(), keeper.paths(), keeper.path("t"), keeper.lies(), keeper.stiff(), keeper.look({}))
        keeper.set_way("t", TO_S, {})
        keeper.stiffen("y")
        keeper.loosen("w")
        keeper.turn("v", "right", {})
        keeper.about("t")
        keeper.look(told_taken("m", "h"))
        keeper.about("a")
        keeper.leave("a")
        self.assertEqual((told[0], list(told[1].items()), list(told[3].items()), told[4]),
                         (ahead[0], ahead[1], ahead[3], ahead[4]))
        self.assertEqual((told[2], told[5]), (ahead[1][1][1], []))

    def test_nothing_handed_in_is_changed_or_kept(self):
        keeper = Keeper(STATION)
        seen = told_taken("k")
        noted = list(seen.items())
        keeper.come("t", 1, "g", seen)
        keeper.set_way("t", TO_M, seen)
        keeper.turn("y", "right", seen)
        keeper.look(seen)
        self.assertEqual(list(seen.items()), noted)
        ahead = told_of(keeper)
        seen["m"] = True
        seen.clear()
        self.assertEqual(told_of(keeper), ahead)

    def test_two_keepers_of_the_same_tracks(self):
        one, two = Keeper(STATION), Keeper(STATION)
        ahead = told_of(two)
        one.come("t", 1, "g", {})
        one.set_way("t", TO_M, {})
        one.turn("v", "right", {})
        one.stiffen("y")
        self.assertEqual(told_of(two), ahead)


NO_ROUTES = [None, (), ("mb",), ["mb"], 0, "in"]


class AsTheWordsSay(unittest.TestCase):
    def handed(self, chance, tracks, words, kind):
        """Good things to hand in for the most part, and bad ones now and then."""
        names, points = tracks.names(), sorted(words.lies)
        trains = sorted(words.path) + ["z"]
        train = chance.choice(trains)
        if kind == "come":
            return [chance.choice(["a", "b", "c", "d", "e1", "", None]), chance.choice([1, 2, 3, 4, 1, 2, 3, 0, True]),
                    chance.choice(words.gates + words.gates + names)]
        if kind == "set_way":
            ends = [(path[-1][0], path[-1][2]) for name, path in words.path.items() if name == train]
            good = [route for route in words.routes if ends and route[0] == tracks.signal_at(ends[0])]
            return [train, chance.choice((good or words.routes) if chance.random() < 0.9 else words.routes + NO_ROUTES)]
        if kind == "turn":
            return [chance.choice(points + points + names), chance.choice(["left", "right", "left", "right", "stem"])]
        if kind in ("stiffen", "loosen"):
            return [chance.choice(points + points + names)]
        return [train] if kind in ("about", "leave") else []

    def test_in_many_yards(self):
        chance = random.Random(15)
        found = {}
        yards = [STATION, fork()] * 6 + some_yards() + [drawn_yard(chance) for k in range(80)]
        for tracks in yards:
            keeper, words = Keeper(tracks), KeeperWords(tracks)
            words.gates = [name for name in tracks.names() if tracks.signal_at((name, "a")) and
                           tracks.named(name).ends() == ["a"]]
            if not words.gates or not words.routes:
                continue
            for k in range(120):
                kind = chance.choice(["come", "come", "look", "look", "turn", "stiffen", "loosen", "about"] +
                                     ["set_way"] * 3 + ["leave"] * (k % 4 == 0))
                handed = self.handed(chance, tracks, words, kind)
                if kind in ("come", "set_way", "turn", "look"):
                    rate = chance.choice([0.0, 0.1, 0.5])
                    handed.append(dict([(name, chance.random() < rate) for name in tracks.names()
                                        if chance.random() < 0.9]))
                came = getattr(words, kind)(*handed)
                self.assertEqual(outcome(getattr(keeper, kind), *handed), came, (kind, handed))
                self.assertEqual(told_of(keeper), words.told(), (kind, handed))
                word = "back" if kind == "look" and came[1] else came[0]
                found[(kind, word)] = found.get((kind, word), 0) + 1
        for kind, words in (("come", "told BadName BadEnd TooMany Held Seen"), ("turn", "told BadName Held Seen Stiff"),
                            ("set_way", "told NoTrain BadWay Held Seen Stiff"), ("stiffen", "told BadName"),
                            ("loosen", "told BadName"), ("look", "told back"), ("about", "told NoTrain NoTurn"),
                            ("leave", "told NoTrain")):
            for word in words.split():
                self.assertGreater(found.get((kind, word), 0), 8, (kind, word))
