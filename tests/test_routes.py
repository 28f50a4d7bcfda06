"""Routes (point 7)."""

import inspect
import random
import unittest

from tests.helper import diamonds, drawn_yard, eight, line, line_steps, loop, ring, small_yard, some_yards
from yardkeep.errors import BadName
from yardkeep.parts import Gate, Plain, Points, Stop
from yardkeep.routes import goal_of, is_route, lies_of, routes_from
from yardkeep.tracks import Tracks

WHATEVER = ["", "nosuch", "p", "SP", "sp ", "abcdefg", None, 0, 1, 7, True, False, 1.5, [], ["sp"], (), ("sp",),
            ("p", "b"), {}, {"sp": 1}, {"sp"}, Plain("sp")]
TO_S = ("sp", ("w", "stem", "left", "left"), ("x", "a", "b", ""), ("s", "a", "", ""))
TO_T = ("sp", ("w", "stem", "right", "right"), ("x", "c", "d", ""), ("q", "a", "b", ""), ("r", "a", "b", ""),
        ("t", "a", "", ""))
FROM_S = ("z1", ("x", "b", "a", ""), ("w", "left", "stem", "left"), ("p", "b", "a", ""))
FROM_R = ("a1", ("q", "b", "a", ""), ("x", "d", "c", ""), ("w", "right", "stem", "right"), ("p", "b", "a", ""))
IN = ("g", ("p", "a", "b", ""))
OUT = ("m", ("g", "a", "", ""))
ROUTES = {"sp": [TO_S, TO_T], "z1": [FROM_S], "a1": [FROM_R], "g": [IN], "m": [OUT]}


def all_steps(tracks):
    """Every step that there is, part by part, told otherwise than by the ends that are joined."""
    found = []
    for part in [tracks.named(name) for name in tracks.names()]:
        for entry in part.ends():
            for lie in part.lies():
                if part.leads(entry, lie) != "" or isinstance(part, Stop):
                    found.append((part.name, entry, part.leads(entry, lie), lie))
    return found


def holds(tracks, route):
    """Point 7, clause by clause, of a tuple of a signal there is and steps that there are."""
    steps = route[1:]
    ends = [tracks.end_of(route[0])] + [(step[0], step[2]) for step in steps]
    if not 1 <= len(steps) <= 12:
        return False
    if [tracks.beyond(end) for end in ends[:-1]] != [(step[0], step[1]) for step in steps]:
        return False
    over = [step[2] == "" or tracks.signal_at((step[0], step[2])) != "" for step in steps]
    if over != [False] * (len(steps) - 1) + [True]:
        return False
    return len(set([end[0] for end in ends])) == len(ends)


def grown(tracks, steps, route):
    """All routes that begin so, found by trying every step that there is."""
    if len(route) > 1 and holds(tracks, route):
        return [route]
    if len(route) > 12:
        return []
    last = tracks.end_of(route[0]) if len(route) == 1 else (route[-1][0], route[-1][2])
    found = []
    for step in steps:
        if tracks.beyond(last) == (step[0], step[1]):
            found += grown(tracks, steps, route + (step,))
    return found


def with_step(route, place, step):
    return route[:place] + (step,) + route[place + 1:]


def made_anew(thing):
    """An equal thing of other objects."""
    if isinstance(thing, tuple):
        return tuple([made_anew(one) for one in thing])
    return "".join([sign for sign in thing])


class RoutesFrom(unittest.TestCase):
    def test_one_and_several(self):
        for signal, routes in ROUTES.items():
            with self.subTest(signal=signal):
                self.assertEqual(routes_from(small_yard(), signal), routes)

    def test_a_list_of_tuples(self):
        for route in routes_from(small_yard(), "sp"):
            self.assertIs(type(route), tuple)
            self.assertEqual([type(step) for step in route[1:]], [tuple] * (len(route) - 1))
        self.assertIs(type(routes_from(small_yard(), "sp")), list)

    def test_none(self):
        self.assertEqual(routes_from(loop([("in", "g", "a")]), "in"), [])
        self.assertEqual(routes_from(line(12, [("in", "g", "a")]), "in"), [])

    def test_straight_into_a_stop_and_into_a_gate(self):
        tracks = line(0, [("in", "g", "a"), ("out", "s", "a")])
        self.assertEqual(routes_from(tracks, "in"), [("in", ("s", "a", "", ""))])
        self.assertEqual(routes_from(tracks, "out"), [("out", ("g", "a", "", ""))])

    def test_several_over_many_points_sorted(self):
        for count in (1, 2, 3, 4, 5):
            lies = [[]]
            for k in range(count):
                lies = [ahead + [lie] for ahead in lies for lie in ("left", "right")]
            routes = []
            for one in lies:
                route = ("in",)
                for k, lie in enumerate(one):
                    route += (("w" + str(2 * k), "stem", lie, lie), ("w" + str(2 * k + 1), lie, "stem", lie))
                routes.append(route + (("s", "a", "", ""),))
            with self.subTest(count=count):
                self.assertEqual(routes_from(diamonds(count, [("in", "g", "a")]), "in"), sorted(routes))

    def test_points_over_which_one_comes_from_left_or_right_lead_to_stem_alone(self):
        self.assertEqual(routes_from(small_yard(), "z1"), [FROM_S])
        self.assertEqual(routes_from(small_yard(), "a1"), [FROM_R])

    def test_a_signal_for_the_other_way_ends_nothing(self):
        tracks = line(2, [("in", "g", "a"), ("down", "p0", "a"), ("back", "p1", "a")])
        self.assertEqual(routes_from(tracks, "in"), [("in",) + line_steps(2)])
        self.assertEqual(routes_from(tracks, "back"), [("back", ("p0", "b", "a", ""))])
        self.assertEqual(routes_from(tracks, "down"), [("down", ("g", "a", "", ""))])

    def test_the_first_signal_ends_it(self):
        tracks = line(4, [("in", "g", "a"), ("n", "p1", "b"), ("m", "p3", "b")])
        self.assertEqual(routes_from(tracks, "in"), [("in",) + line_steps(4)[:2]])
        self.assertEqual(routes_from(tracks, "n"), [("n",) + line_steps(4)[2:4]])
        self.assertEqual(routes_from(tracks, "m"), [("m", ("s", "a", "", ""))])

    def test_a_part_that_would_come_again(self):
        self.assertEqual(routes_from(loop([("in", "g", "a")]), "in"), [])
        self.assertEqual(routes_from(loop([("in", "g", "a"), ("l", "l", "b")]), "in"),
                         [("in", ("w", "stem", "left", "left"), ("l", "a", "b", ""))])
        self.assertEqual(routes_from(eight([("in", "g", "a"), ("out", "s", "a")]), "in"), [])
        self.assertEqual(routes_from(eight([("in", "g", "a"), ("out", "s", "a")]), "out"), [])
        self.assertEqual(routes_from(eight([("in", "g", "a"), ("l", "l", "b")]), "in"),
                         [("in", ("x", "a", "b", ""), ("l", "a", "b", ""))])
        self.assertEqual(routes_from(eight([("in", "g", "a"), ("l", "l", "b")]), "l"),
                         [("l", ("x", "c", "d", ""), ("s", "a", "", ""))])

    def test_one_left_out_another_told(self):
        parts = [Gate("g"), Points("v"), Points("w"), Plain("l"), Stop("s")]
        joins = [(("g", "a"), ("v", "stem")), (("v", "left"), ("w", "stem")), (("v", "right"), ("s", "a")),
                 (("w", "left"), ("l", "a")), (("w", "right"), ("l", "b"))]
        tracks = Tracks(parts, joins, [("in", "g", "a"), ("out", "s", "a")])
        self.assertEqual(routes_from(tracks, "in"), [("in", ("v", "stem", "right", "right"), ("s", "a", "", ""))])
        self.assertEqual(routes_from(tracks, "out"), [("out", ("v", "right", "stem", "right"), ("g", "a", "", ""))])

    def test_the_part_in_which_the_signal_stands(self):
        for count in (2, 3, 12):
            parts, joins = ring(count)
            with self.subTest(count=count):
                self.assertEqual(routes_from(Tracks(parts, joins, [("n", "p0", "b")]), "n"), [])
                self.assertEqual(routes_from(Tracks(parts, joins, [("n", "p0", "a")]), "n"), [])
        parts, joins = ring(3)
        tracks = Tracks(parts, joins, [("n", "p0", "b"), ("m", "p2", "b")])
        self.assertEqual(routes_from(tracks, "n"), [("n", ("p1", "a", "b", ""), ("p2", "a", "b", ""))])
        self.assertEqual(routes_from(tracks, "m"), [("m", ("p0", "a", "b", ""))])
        self.assertEqual(routes_from(loop([("l", "l", "b"), ("k", "l", "a")]), "l"),
                         [("l", ("w", "right", "stem", "right"), ("g", "a", "", ""))])

    def test_twelve_steps_and_thirteen(self):
        for count in (10, 11):
            self.assertEqual(routes_from(line(count, [("in", "g", "a")]), "in"), [("in",) + line_steps(count)])
        for count in (12, 13, 30):
            self.assertEqual(routes_from(line(count, [("in", "g", "a")]), "in"), [])
        twelve = line(20, [("in", "g", "a"), ("n", "p11", "b")])
        self.assertEqual(routes_from(twelve, "in"), [("in",) + line_steps(20)[:12]])
        self.assertEqual(routes_from(twelve, "n"), [("n",) + line_steps(20)[12:]])
        self.assertEqual(routes_from(line(20, [("in", "g", "a"), ("n", "p12", "b")]), "in"), [])
        self.assertEqual(len(routes_from(diamonds(5, [("in", "g", "a")]), "in")), 32)
        self.assertEqual(routes_from(diamonds(6, [("in", "g", "a")]), "in"), [])

    def test_twelve_steps_by_one_lie_and_thirteen_by_the_other(self):
        names = ["p" + str(k) for k in range(21)]
        parts = [Gate("g"), Points("w"), Stop("s"), Stop("t")] + [Plain(name) for name in names]
        joins = [(("g", "a"), ("w", "stem"))]
        for lie, those, last in (("left", names[:11], "s"), ("right", names[11:], "t")):
            rows = [("w", lie)] + [(name, end) for name in those for end in "ab"] + [(last, "a")]
            joins += [(rows[k], rows[k + 1]) for k in range(0, len(rows), 2)]
        told = routes_from(Tracks(parts, joins, [("in", "g", "a")]), "in")
        self.assertEqual([(goal_of(route), len(route)) for route in told], [("t", 13)])

    def test_refused_of_whatever_thing(self):
        for thing in WHATEVER:
            with self.subTest(thing=thing):
                with self.assertRaises(BadName):
                    routes_from(small_yard(), thing)
        with self.assertRaises(BadName):
            routes_from(Tracks([], []), "sp")

    def test_a_signal_called_like_a_part(self):
        self.assertEqual(routes_from(small_yard(), "g"), [IN])
        with self.assertRaises(BadName):
            routes_from(small_yard(), "p")

    def test_a_list_told_may_be_changed(self):
        tracks = small_yard()
        kept = routes_from(tracks, "sp")
        routes_from(tracks, "sp").clear()
        routes_from(tracks, "sp").append(IN)
        self.assertEqual(routes_from(tracks, "sp"), [TO_S, TO_T])
        self.assertEqual(kept, [TO_S, TO_T])

    def test_each_yard_against_every_step_tried(self):
        chance = random.Random(7)
        found = 0
        for tracks in some_yards() + [drawn_yard(chance) for k in range(150)]:
            for signal, part, end in tracks.signals():
                told = routes_from(tracks, signal)
                self.assertEqual(told, sorted(grown(tracks, all_steps(tracks), (signal,))))
                self.assertEqual(told, sorted(set(told)))
                self.assertEqual([is_route(tracks, route) for route in told], [True] * len(told))
                found += len(told)
        self.assertGreater(found, 200)

    def test_arguments(self):
        for function, told in ((routes_from, "(tracks, signal)"), (is_route, "(tracks, thing)"),
                               (goal_of, "(route)"), (lies_of, "(route)")):
            self.assertEqual(str(inspect.signature(function)), told)


class IsRoute(unittest.TestCase):
    def not_one(self, thing, tracks=None):
        self.assertIs(is_route(small_yard() if tracks is None else tracks, thing), False, thing)

    def told(self):
        return [route for routes in ROUTES.values() for route in routes]

    def test_each_route_that_is_told(self):
        for route in self.told():
            self.assertIs(is_route(small_yard(), route), True)
            self.assertIs(is_route(small_yard(), made_anew(route)), True)

    def test_a_step_left_out(self):
        for route in self.told():
            for place in range(1, len(route)):
                self.not_one(route[:place] + route[place + 1:])

    def test_a_step_put_twice(self):
        for route in self.told():
            for place in range(1, len(route)):
                self.not_one(route[:place] + (route[place],) + route[place:])
                self.not_one(route + (route[place],))

    def test_a_step_turned_about(self):
        for route in self.told():
            for place in range(1, len(route)):
                part, entry, way_out, lie = route[place]
                self.not_one(with_step(route, place, (part, way_out, entry, lie)))

    def test_two_steps_exchanged(self):
        for route in self.told():
            for place in range(2, len(route)):
                self.not_one(route[:place - 1] + (route[place], route[place - 1]) + route[place + 1:])

    def test_another_lie(self):
        for route in self.told():
            for place in range(1, len(route)):
                for lie in ("", "left", "right", "up", None, 0, False):
                    if lie != route[place][3]:
                        self.not_one(with_step(route, place, route[place][:3] + (lie,)))

    def test_another_part_entry_or_way_out(self):
        for route in self.told():
            for place in range(1, len(route)):
                for word in ("", "a", "b", "c", "d", "stem", "left", "right", "p", "q", "nosuch", None, 0, True):
                    for field in (0, 1, 2):
                        step = route[place]
                        if word != step[field]:
                            self.not_one(with_step(route, place, step[:field] + (word,) + step[field + 1:]))

    def test_a_step_more(self):
        for route in self.told():
            for more in all_steps(small_yard()):
                self.not_one(route + (more,))
                self.not_one(route[:1] + (more,) + route[1:])

    def test_two_routes_one_behind_the_other(self):
        self.not_one(IN + TO_S[1:])
        self.not_one(IN + TO_S)
        tracks = line(4, [("in", "g", "a"), ("n", "p1", "b")])
        self.assertIs(is_route(tracks, ("in",) + line_steps(4)[:2]), True)
        self.not_one(("in",) + line_steps(4), tracks)

    def test_steps_more_or_fewer_at_the_end(self):
        for route in self.told():
            for count in range(len(route)):
                self.not_one(route[:count])

    def test_another_signal(self):
        for route in self.told():
            for signal in ["sp", "z1", "a1", "g", "m"]:
                if signal != route[0]:
                    self.not_one((signal,) + route[1:])

    def test_no_signal(self):
        for route in self.told():
            self.not_one(route[1:])
            for thing in WHATEVER:
                self.not_one((thing,) + route[1:])

    def test_a_signal_alone(self):
        for signal in ROUTES:
            self.not_one((signal,))
            self.not_one(signal)
            self.not_one((signal, ()))
            self.not_one((signal, ""))
            self.not_one((signal, None))

    def test_twelve_steps_and_thirteen(self):
        signals = [("in", "g", "a")]
        self.assertIs(is_route(line(11, signals), ("in",) + line_steps(11)), True)
        self.not_one(("in",) + line_steps(12), line(12, signals))
        self.not_one(("in",) + line_steps(12)[:12], line(12, signals))
        ended = line(20, signals + [("n", "p11", "b"), ("m", "p12", "b")])
        self.assertIs(is_route(ended, ("in",) + line_steps(20)[:12]), True)
        self.not_one(("in",) + line_steps(20)[:13], line(20, signals + [("m", "p12", "b")]))

    def test_a_part_that_comes_twice(self):
        self.not_one(("in", ("x", "a", "b", ""), ("l", "a", "b", ""), ("x", "c", "d", ""), ("s", "a", "", "")),
                     eight([("in", "g", "a")]))
        self.not_one(("in", ("w", "stem", "left", "left"), ("l", "a", "b", ""), ("w", "right", "stem", "right"),
                      ("g", "a", "", "")), loop([("in", "g", "a")]))

    def test_the_part_in_which_the_signal_stands(self):
        parts, joins = ring(3)
        self.not_one(("n", ("p1", "a", "b", ""), ("p2", "a", "b", ""), ("p0", "a", "b", "")),
                     Tracks(parts, joins, [("n", "p0", "b")]))
        self.not_one(("n", ("w", "right", "stem", "right"), ("g", "a", "", ""), ("g", "", "a", "")),
                     loop([("n", "l", "b")]))

    def test_a_route_of_another_yard(self):
        signals = [("sp", "g", "a")]
        for tracks in (line(3, signals), loop(signals), diamonds(1, signals), Tracks([], [])):
            for route in self.told():
                self.not_one(route, tracks)

    def test_lists_in_the_place_of_tuples(self):
        for route in self.told():
            self.not_one(list(route))
            self.not_one([route])
            self.not_one((route,))
            self.not_one((route[0], list(route[1:])))
            self.not_one((route[0], route[1:]))
            self.not_one((route[0],) + tuple([list(step) for step in route[1:]]))
            self.not_one(([route[0]],) + route[1:])
            for place in range(1, len(route)):
                self.not_one(with_step(route, place, list(route[place])))
                self.not_one(with_step(route, place, route[place] + ("",)))
                self.not_one(with_step(route, place, route[place][:3]))

    def test_other_things(self):
        for thing in [None, 0, 1, -7, 12, True, False, "", "sp", "route", [], ["sp"], [[]], (), ((),), ((), ()),
                      (None,), (None, None), (0, 1), (True, False), ("sp", "w"), ("sp", 1, 2), ("sp", True),
                      ("sp", [], []), ("sp", (None, None, None, None)), ("sp", (1, 2, 3, 4)), ("sp", ([], [], [], [])),
                      ([], ()), ({}, ()), ("", ("p", "a", "b", ""))]:
            with self.subTest(thing=thing):
                self.not_one(thing)
                self.not_one(thing, Tracks([], []))

    def test_the_thing_stays_as_it_was(self):
        for thing in [["sp", ["w"]], ("sp", ["w", "stem"]), list(TO_S)]:
            kept = repr(thing)
            is_route(small_yard(), thing)
            self.assertEqual(repr(thing), kept)


class GoalAndLies(unittest.TestCase):
    def test_goal(self):
        for route, goal in ((TO_S, "s"), (TO_T, "t"), (FROM_S, "p"), (FROM_R, "p"), (IN, "p"), (OUT, "g")):
            with self.subTest(route=route):
                self.assertEqual(goal_of(route), goal)

    def test_no_points(self):
        for route in (IN, OUT, ("in",) + line_steps(11)):
            self.assertEqual(lies_of(route), [])

    def test_one(self):
        self.assertEqual(lies_of(TO_S), [("w", "left")])
        self.assertEqual(lies_of(TO_T), [("w", "right")])
        self.assertEqual(lies_of(FROM_R), [("w", "right")])
        self.assertIs(type(lies_of(TO_S)[0]), tuple)

    def test_several_as_they_come(self):
        routes = routes_from(diamonds(2, [("in", "g", "a"), ("out", "s", "a")]), "in")
        self.assertEqual(lies_of(routes[1]), [("w0", "left"), ("w1", "left"), ("w2", "right"), ("w3", "right")])
        self.assertEqual(lies_of(routes[2]), [("w0", "right"), ("w1", "right"), ("w2", "left"), ("w3", "left")])
        back = routes_from(diamonds(2, [("in", "g", "a"), ("out", "s", "a")]), "out")
        self.assertEqual(lies_of(back[1]), [("w3", "left"), ("w2", "left"), ("w1", "right"), ("w0", "right")])

    def test_the_told_list_is_the_askers_own(self):
        kept = lies_of(TO_S)
        lies_of(TO_S).clear()
        self.assertEqual(lies_of(TO_S), [("w", "left")])
        self.assertEqual(kept, [("w", "left")])
