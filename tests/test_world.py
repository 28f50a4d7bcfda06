"""Trains and the world (points 3, 12, 13 and 14)."""

import inspect
import random
import unittest

from tests.helper import NO_LENGTHS, NO_NAMES, drawn_yard, eight, fork, line, loop, ring, some_yards
from tests.words import WorldWords
from yardkeep.errors import BadEnd, BadName, NoTrain, TooMany, YardError
from yardkeep.parts import Gate, Part, Points, Stop
from yardkeep.tracks import Tracks
from yardkeep.world import Train, World


def free(signal):
    return True


def shut(signal):
    return False


class Shows:
    """A function of a signal's name that notes of what it was asked."""
    def __init__(self, passed=True):
        self.passed = passed
        self.asked = []

    def __call__(self, signal):
        self.asked.append(signal)
        return self.passed


def went(world, name, count):
    return [world.go(name, free) for k in range(count)]


def told_of(world):
    """All that a world tells, in lists of its own, whatever those are that the world gave."""
    return (list(world.trains()), [list(world.spots(name)) for name in world.trains()], list(world.lies().items()),
            list(world.taken().items()), list(world.accidents()))


def world_with(long, steps, lie="left"):
    """A fork in which the train t came to g and went so many steps."""
    world = World(fork())
    world.turn("w", lie)
    world.come("t", long, "g")
    went(world, "t", steps)
    return world


class Trains(unittest.TestCase):
    def test_fields(self):
        train = Train("t1", 3, "g")
        self.assertEqual((train.name, train.long, train.stands), ("t1", 3, [("g", "")]))
        self.assertIs(type(train.stands), list)

    def test_each_its_own(self):
        one, two = Train("t", 1, "g"), Train("t", 1, "g")
        one.stands.append(("p", "a"))
        self.assertEqual(two.stands, [("g", "")])

    def test_arguments(self):
        self.assertEqual(str(inspect.signature(Train)), "(name, long, gate)")
        self.assertEqual(str(inspect.signature(World)), "(tracks)")
        world = World(fork())
        for method, told in ((world.come, "(name, long, gate)"), (world.go, "(name, shows)"),
                             (world.about, "(name)"), (world.leave, "(name)"), (world.turn, "(points, lie)"),
                             (world.lies, "()"), (world.spots, "(name)"), (world.trains, "()"), (world.taken, "()"),
                             (world.accidents, "()")):
            self.assertEqual(str(inspect.signature(method)), told)


class Come(unittest.TestCase):
    def refused(self, kind, name, long, gate, world=None):
        world = world or World(fork())
        ahead = told_of(world)
        with self.subTest(name=name, long=long, gate=gate), self.assertRaises(YardError) as raised:
            world.come(name, long, gate)
        self.assertIs(type(raised.exception), kind, (name, long, gate))
        self.assertEqual(told_of(world), ahead)

    def test_a_train_comes(self):
        for long in (1, 2, 3, 4):
            world = World(fork())
            self.assertIsNone(world.come("t", long, "g"))
            self.assertEqual(world.trains(), ["t"])
            self.assertEqual(world.spots("t"), [("g", "")])
            self.assertEqual([part for part, taken in world.taken().items() if taken], ["g"])
            self.assertEqual(world.accidents(), [])

    def test_names_as_those_of_parts_and_signals(self):
        world = World(fork())
        world.come("g", 1, "g")
        world.come("in", 1, "h")
        self.assertEqual(world.trains(), ["g", "in"])

    def test_no_name(self):
        for thing in NO_NAMES:
            self.refused(BadName, thing, 1, "g")

    def test_a_train_that_is_there(self):
        world = world_with(1, 2)
        for gate in ("g", "h"):
            self.refused(BadName, "t", 1, gate, world)

    def test_no_gate(self):
        for thing in NO_NAMES + ["p", "s", "w", "q", "nosuch", "in", "t", "g ", "G"]:
            self.refused(BadEnd, "t", 1, thing)

    def test_no_length(self):
        for thing in NO_LENGTHS:
            self.refused(TooMany, "t", thing, "g")

    def test_several_in_their_order(self):
        for name in ("", None, ["t"]):
            self.refused(BadName, name, 5, "nosuch")
            self.refused(BadName, name, True, "g")
            self.refused(BadName, name, 1, "s")
        for long in NO_LENGTHS:
            self.refused(BadEnd, "t", long, "p")
            self.refused(BadEnd, "t", long, ["g"])
        world = world_with(2, 0)
        self.refused(BadName, "t", 5, "p", world)
        self.refused(BadEnd, "u", 5, "p", world)
        self.refused(TooMany, "u", 5, "g", world)
        self.refused(BadName, "t", 1, "g", world)

    def test_a_train_in_the_gate(self):
        world = world_with(1, 0)
        self.assertIsNone(world.come("u", 1, "g"))
        self.assertEqual(world.accidents(), [("crash", "g")])
        self.assertEqual(world.trains(), ["t"])
        self.assertEqual(world.spots("t"), [("g", "")])
        with self.assertRaises(NoTrain):
            world.spots("u")

    def test_a_tail_in_the_gate(self):
        world = world_with(2, 1)
        world.come("u", 1, "g")
        self.assertEqual((world.accidents(), world.trains()), ([("crash", "g")], ["t"]))

    def test_it_comes_when_the_gate_is_free(self):
        world = world_with(1, 0)
        world.come("u", 1, "g")
        world.go("t", free)
        world.come("u", 2, "g")
        self.assertEqual((world.trains(), world.spots("u")), (["t", "u"], [("g", "")]))
        self.assertEqual(world.accidents(), [("crash", "g")])

    def test_another_gate(self):
        world = world_with(1, 0)
        world.come("a", 4, "h")
        self.assertEqual((world.trains(), world.spots("a"), world.accidents()), (["a", "t"], [("h", "")], []))

    def test_a_train_that_left_comes_again(self):
        world = world_with(3, 2)
        world.leave("t")
        world.come("t", 1, "h")
        self.assertEqual((world.trains(), world.spots("t")), (["t"], [("h", "")]))
        went(world, "t", 1)
        self.assertEqual(world.spots("t"), [("q", "b")])

    def test_what_was_refused_is_done_when_it_is_good(self):
        world = world_with(1, 1)
        with self.assertRaises(BadName):
            world.come("t", 2, "g")
        world.leave("t")
        self.assertIsNone(world.come("t", 2, "g"))
        self.assertEqual(world.spots("t"), [("g", "")])

    def test_no_parts(self):
        world = World(Tracks([], []))
        self.refused(BadEnd, "t", 1, "g", world)
        self.assertEqual(told_of(world), ([], [], [], [], []))


class Go(unittest.TestCase):
    def test_went_and_end(self):
        world = World(fork())
        world.come("t", 1, "g")
        told = []
        for k in range(3):
            self.assertEqual(world.go("t", free), "went")
            told.append(world.spots("t"))
        self.assertEqual(told, [[("p", "a")], [("w", "stem")], [("s", "a")]])
        for k in range(2):
            self.assertEqual(world.go("t", free), "end")
        self.assertEqual((world.spots("t"), world.accidents()), ([("s", "a")], []))

    def test_into_a_gate(self):
        world = world_with(1, 4, "right")
        self.assertEqual(world.spots("t"), [("h", "a")])
        self.assertEqual(world.go("t", free), "end")
        self.assertEqual(world.accidents(), [])

    def test_the_tail_goes_only_where_there_are_too_many_spots(self):
        spots = [("g", ""), ("p", "a"), ("w", "stem"), ("q", "a"), ("h", "a")]
        for long in (1, 2, 3, 4):
            world = World(fork())
            world.turn("w", "right")
            world.come("t", long, "g")
            for k in range(4):
                self.assertEqual(world.spots("t"), spots[max(0, k + 1 - long):k + 1])
                self.assertEqual(world.go("t", free), "went")
            self.assertEqual(world.spots("t"), spots[5 - long:])
            self.assertEqual([part for part, taken in world.taken().items() if taken],
                             sorted([part for part, end in spots[5 - long:]]))

    def test_stop(self):
        world = world_with(2, 0)
        ahead = told_of(world)
        self.assertEqual(world.go("t", shut), "stop")
        self.assertEqual(told_of(world), ahead)
        self.assertEqual(world.go("t", free), "went")
        self.assertEqual(world.go("t", shut), "stop")
        self.assertEqual(world.spots("t"), [("g", ""), ("p", "a")])

    def test_of_what_shows_is_asked(self):
        world = World(fork())
        world.turn("w", "right")
        world.come("t", 4, "g")
        shows, no = Shows(), Shows(False)
        self.assertEqual((world.go("t", no), no.asked), ("stop", ["in"]))
        self.assertEqual((world.go("t", shows), shows.asked), ("went", ["in"]))
        self.assertEqual((world.go("t", no), no.asked), ("stop", ["in", "up"]))
        self.assertEqual((world.go("t", shows), shows.asked), ("went", ["in", "up"]))
        # Neither at the points, nor at q, nor into the gate h does a signal stand that is passed.
        self.assertEqual([world.go("t", no) for k in range(3)], ["went", "went", "end"])
        self.assertEqual(no.asked, ["in", "up"])

    def test_a_signal_at_the_other_end_isnt_asked(self):
        world = world_with(1, 1)
        world.about("t")
        shows = Shows()
        self.assertEqual((world.go("t", shows), shows.asked), ("went", ["back"]))
        self.assertEqual(world.spots("t"), [("g", "a")])
        self.assertEqual((world.go("t", shows), shows.asked), ("end", ["back"]))

    def test_not_asked_at_an_end(self):
        world, shows = world_with(1, 3), Shows()
        self.assertEqual((world.go("t", shows), shows.asked), ("end", []))
        world.about("t")
        self.assertEqual((world.go("t", shows), shows.asked), ("went", []))

    def test_asked_ahead_of_a_crash(self):
        world = world_with(1, 1)
        world.come("u", 1, "g")
        no, shows = Shows(False), Shows()
        self.assertEqual((world.go("u", no), no.asked, world.accidents()), ("stop", ["in"], []))
        self.assertEqual((world.go("u", shows), shows.asked, world.accidents()), ("crash", ["in"], [("crash", "p")]))

    def test_crash(self):
        world = world_with(1, 1)
        world.come("u", 2, "g")
        self.assertEqual(world.go("u", free), "crash")
        self.assertEqual(world.accidents(), [("crash", "p")])
        self.assertEqual((world.spots("t"), world.spots("u")), ([("p", "a")], [("g", "")]))
        self.assertEqual(world.go("u", free), "crash")
        self.assertEqual(world.accidents(), [("crash", "p"), ("crash", "p")])
        world.go("t", free)
        self.assertEqual(world.go("u", free), "went")
        self.assertEqual(len(world.accidents()), 2)

    def test_crash_into_a_tail_and_into_a_stop(self):
        world = world_with(3, 3)
        world.come("u", 1, "g")
        self.assertEqual(world.go("u", free), "crash")
        self.assertEqual(world.accidents(), [("crash", "p")])
        world = world_with(1, 3)
        world.come("u", 1, "g")
        self.assertEqual(went(world, "u", 3), ["went", "went", "crash"])
        self.assertEqual(world.accidents(), [("crash", "s")])

    def test_off(self):
        world = World(fork())
        world.come("t", 2, "h")
        self.assertEqual(went(world, "t", 3), ["went", "off", "off"])
        self.assertEqual(world.accidents(), [("off", "w"), ("off", "w")])
        self.assertEqual(world.spots("t"), [("h", ""), ("q", "b")])
        world.turn("w", "right")
        self.assertEqual(world.go("t", free), "went")
        self.assertEqual(world.spots("t"), [("q", "b"), ("w", "right")])
        self.assertEqual(len(world.accidents()), 2)

    def test_off_from_the_left(self):
        world = world_with(1, 3)
        world.about("t")
        world.turn("w", "right")
        self.assertEqual((world.go("t", free), world.accidents()), ("off", [("off", "w")]))
        self.assertEqual(world.spots("t"), [("s", "")])

    def test_crash_ahead_of_off(self):
        world = world_with(1, 2)
        world.come("u", 1, "h")
        self.assertEqual(went(world, "u", 2), ["went", "crash"])
        self.assertEqual(world.accidents(), [("crash", "w")])
        self.assertEqual(world.spots("u"), [("q", "b")])

    def test_by_the_stem_no_train_goes_off(self):
        for lie, part in (("left", "s"), ("right", "q")):
            world = world_with(1, 3, lie)
            self.assertEqual((world.spots("t"), world.accidents()), ([(part, "a")], []))

    def test_a_stop_beyond_a_gate(self):
        world = World(line(0, []))
        world.come("t", 1, "g")
        self.assertEqual(went(world, "t", 2), ["went", "end"])
        self.assertEqual((world.spots("t"), world.accidents()), ([("s", "a")], []))

    def test_over_a_cross(self):
        world = World(eight([]))
        world.come("t", 2, "g")
        self.assertEqual(went(world, "t", 5), ["went", "went", "crash", "crash", "crash"])
        self.assertEqual(world.accidents(), [("crash", "x")] * 3)
        world = World(eight([]))
        world.come("t", 1, "g")
        self.assertEqual(went(world, "t", 2), ["went", "went"])
        self.assertEqual(world.spots("t"), [("l", "a")])
        self.assertEqual(world.go("t", free), "went")
        self.assertEqual(world.spots("t"), [("x", "c")])
        self.assertEqual(went(world, "t", 2), ["went", "end"])
        self.assertEqual((world.spots("t"), world.accidents()), ([("s", "a")], []))

    def test_into_a_part_in_which_it_stands(self):
        for long, word in ((1, "off"), (2, "crash"), (3, "crash")):
            world = World(loop([]))
            world.come("t", long, "g")
            self.assertEqual(went(world, "t", 3), ["went", "went", word])
            self.assertEqual(world.accidents(), [(word, "w")])
            self.assertEqual(world.spots("t"), [("g", ""), ("w", "stem"), ("l", "a")][3 - long:])

    def test_round_a_ring(self):
        """A train as long as a ring has its tail ahead of its head: that is a crash, though the tail would go."""
        parts, joins = ring(3)
        points = [Gate("g"), Points("w")]
        joins = joins[1:] + [(("p2", "b"), ("w", "stem")), (("w", "left"), ("p0", "a")), (("w", "right"), ("g", "a"))]
        tracks = Tracks(parts + points, joins)
        for long, word in ((2, "went"), (3, "went"), (4, "crash")):
            world = World(tracks)
            world.turn("w", "right")
            world.come("t", long, "g")
            went(world, "t", 1)
            self.assertEqual(world.spots("t")[-1], ("w", "right"))
            went(world, "t", 3)
            self.assertEqual(world.spots("t")[-1], ("p0", "b"))
            self.assertEqual(world.taken()["w"], long == 4)
            if long < 4:
                world.turn("w", "left")
            self.assertEqual(world.go("t", free), word)
            self.assertEqual(world.accidents(), [("crash", "w")] if long == 4 else [])

    def test_on_points_that_were_turned_under_it(self):
        world = world_with(1, 2)
        world.turn("w", "right")
        self.assertEqual(world.go("t", free), "went")
        self.assertEqual(world.spots("t"), [("q", "a")])
        world = World(fork())
        world.turn("w", "right")
        world.come("t", 1, "h")
        went(world, "t", 2)
        world.turn("w", "left")
        shows = Shows()
        self.assertEqual((world.go("t", shows), shows.asked), ("end", []))
        self.assertEqual(world.accidents(), [("split", "w")])

    def test_a_part_itself(self):
        world = World(Tracks([Gate("g"), Part("r"), Stop("s")], [(("g", "a"), ("r", "b")), (("r", "a"), ("s", "a"))]))
        world.come("t", 1, "g")
        self.assertEqual(went(world, "t", 3), ["went", "went", "end"])

    def test_no_train(self):
        world = world_with(1, 1)
        ahead = told_of(world)
        shows = Shows()
        for thing in NO_NAMES + ["u", "p", "g"]:
            with self.subTest(thing=thing), self.assertRaises(NoTrain):
                world.go(thing, shows)
        self.assertEqual((shows.asked, told_of(world)), ([], ahead))

    def test_no_other_train_moves(self):
        world = world_with(2, 3)
        world.come("u", 3, "h")
        went(world, "u", 1)
        self.assertEqual(world.spots("t"), [("w", "stem"), ("s", "a")])


class About(unittest.TestCase):
    def test_at_a_gate(self):
        world = world_with(3, 0)
        self.assertIsNone(world.about("t"))
        self.assertEqual(world.spots("t"), [("g", "a")])
        self.assertEqual(world.go("t", free), "end")
        world.about("t")
        self.assertEqual(world.spots("t"), [("g", "")])
        self.assertEqual(world.go("t", free), "went")

    def test_at_a_stop(self):
        world = world_with(1, 3)
        world.about("t")
        self.assertEqual(world.spots("t"), [("s", "")])
        self.assertEqual(world.go("t", free), "went")
        self.assertEqual(world.spots("t"), [("w", "left")])

    def test_amid(self):
        world = world_with(2, 2)
        world.about("t")
        self.assertEqual(world.spots("t"), [("w", "left"), ("p", "b")])
        self.assertEqual(went(world, "t", 2), ["went", "end"])
        self.assertEqual(world.spots("t"), [("p", "b"), ("g", "a")])

    def test_a_long_train(self):
        world = world_with(4, 3, "right")
        self.assertEqual(world.spots("t"), [("g", ""), ("p", "a"), ("w", "stem"), ("q", "a")])
        world.about("t")
        self.assertEqual(world.spots("t"), [("q", "b"), ("w", "right"), ("p", "b"), ("g", "a")])
        self.assertIs(type(world.spots("t")[0]), tuple)

    def test_twice(self):
        for long, steps, lie in ((1, 0, "left"), (3, 1, "left"), (4, 3, "left"), (4, 4, "right"), (2, 3, "right")):
            world = world_with(long, steps, lie)
            ahead = told_of(world)
            world.about("t")
            self.assertNotEqual(told_of(world), ahead)
            world.about("t")
            self.assertEqual(told_of(world), ahead)

    def test_on_points_that_lie_otherwise(self):
        world = world_with(2, 3)
        world.turn("w", "right")
        world.about("t")
        self.assertEqual(world.spots("t"), [("s", ""), ("w", "right")])
        world = World(fork())
        world.turn("w", "right")
        world.come("t", 2, "h")
        went(world, "t", 2)
        world.turn("w", "left")
        world.about("t")
        self.assertEqual(world.spots("t"), [("w", ""), ("q", "a")])
        world.about("t")
        self.assertEqual(world.spots("t"), [("q", "b"), ("w", "")])
        self.assertEqual(world.go("t", free), "end")
        self.assertEqual(world.accidents(), [("split", "w")])

    def test_what_is_outside_counts_for_nothing(self):
        world = world_with(3, 1)
        world.about("t")
        self.assertEqual(world.spots("t"), [("p", "b"), ("g", "a")])
        self.assertEqual(world.taken(), {"g": True, "h": False, "p": True, "q": False, "s": False, "w": False})

    def test_no_train(self):
        world = world_with(1, 1)
        ahead = told_of(world)
        for thing in NO_NAMES + ["u", "p"]:
            with self.subTest(thing=thing), self.assertRaises(NoTrain):
                world.about(thing)
        self.assertEqual(told_of(world), ahead)


class LeaveAndSpots(unittest.TestCase):
    def test_is_gone_wherever_it_stands(self):
        for steps in range(4):
            world = world_with(2, steps)
            world.come("u", 1, "h")
            self.assertIsNone(world.leave("t"))
            self.assertEqual(world.trains(), ["u"])
            self.assertEqual([part for part, taken in world.taken().items() if taken], ["h"])
            self.assertEqual(world.accidents(), [])

    def test_no_train(self):
        for method in ("leave", "spots", "about"):
            world = world_with(1, 1)
            ahead = told_of(world)
            for thing in NO_NAMES + ["u", "p", "in"]:
                with self.subTest(method=method, thing=thing), self.assertRaises(NoTrain):
                    getattr(world, method)(thing)
            self.assertEqual(told_of(world), ahead)

    def test_twice(self):
        world = world_with(1, 1)
        world.leave("t")
        for ask in (world.leave, world.spots, world.about):
            with self.assertRaises(NoTrain):
                ask("t")
        with self.assertRaises(NoTrain):
            world.go("t", free)

    def test_accidents_stay(self):
        world = world_with(1, 0)
        world.come("u", 1, "g")
        world.leave("t")
        self.assertEqual(world.accidents(), [("crash", "g")])


class Turn(unittest.TestCase):
    def test_turned(self):
        world = World(fork())
        self.assertEqual(world.lies(), {"w": "left"})
        self.assertIsNone(world.turn("w", "right"))
        self.assertEqual(world.lies(), {"w": "right"})
        self.assertIsNone(world.turn("w", "right"))
        self.assertEqual(world.lies(), {"w": "right"})
        world.turn("w", "left")
        self.assertEqual((world.lies(), world.accidents()), ({"w": "left"}, []))

    def test_no_such_points(self):
        world = world_with(1, 2)
        ahead = told_of(world)
        for thing in NO_NAMES + ["p", "g", "s", "nosuch", "in", "t", "W", ["w"]]:
            for lie in ("left", "right", "", "stem", None):
                with self.subTest(thing=thing, lie=lie), self.assertRaises(BadName):
                    world.turn(thing, lie)
        self.assertEqual(told_of(world), ahead)

    def test_no_such_lie(self):
        world = world_with(1, 2)
        ahead = told_of(world)
        for thing in NO_NAMES + ["stem", "Left", "left ", "a", "w", ["left"], ("right",)]:
            with self.subTest(thing=thing), self.assertRaises(BadName):
                world.turn("w", thing)
        self.assertEqual(told_of(world), ahead)

    def test_under_a_train(self):
        world = world_with(1, 2)
        world.turn("w", "left")
        self.assertEqual(world.accidents(), [])
        self.assertIsNone(world.turn("w", "right"))
        self.assertEqual((world.accidents(), world.lies()), ([("split", "w")], {"w": "right"}))
        world.turn("w", "right")
        self.assertEqual(world.accidents(), [("split", "w")])
        world.turn("w", "left")
        self.assertEqual((world.accidents(), world.lies()), ([("split", "w")] * 2, {"w": "left"}))
        self.assertEqual(world.spots("t"), [("w", "stem")])

    def test_under_a_tail_and_amid(self):
        for long, steps in ((2, 3), (4, 3), (4, 2)):
            world = world_with(long, steps)
            world.turn("w", "right")
            self.assertEqual((world.accidents(), world.lies()), ([("split", "w")], {"w": "right"}))

    def test_beside_a_train(self):
        for steps in (0, 1, 3):
            world = world_with(1, steps)
            world.turn("w", "right")
            self.assertEqual((world.accidents(), world.lies()), ([], {"w": "right"}))

    def test_these_points_alone(self):
        joins = [(("c", "stem"), ("a", "stem")), (("c", "left"), ("a", "left")), (("c", "right"), ("a", "right"))]
        world = World(Tracks([Points("c"), Points("a")], joins))
        world.turn("c", "right")
        self.assertEqual(list(world.lies().items()), [("a", "left"), ("c", "right")])
        world.turn("a", "right")
        world.turn("c", "left")
        self.assertEqual(list(world.lies().items()), [("a", "right"), ("c", "left")])


class Told(unittest.TestCase):
    def test_at_first(self):
        world = World(fork())
        self.assertEqual(told_of(world), ([], [], [("w", "left")], [(part, False) for part in "ghpqsw"], []))

    def test_lies_are_of_all_points_and_sorted(self):
        for tracks in some_yards():
            lies = World(tracks).lies()
            points = [name for name in tracks.names() if isinstance(tracks.named(name), Points)]
            self.assertEqual(list(lies.items()), [(name, "left") for name in points])

    def test_trains_are_sorted(self):
        world = World(Tracks([Gate("g"), Gate("h"), Gate("i"), Gate("j")],
                             [(("g", "a"), ("h", "a")), (("i", "a"), ("j", "a"))]))
        for name, gate in (("b1", "g"), ("c", "i"), ("a2", "j"), ("b", "h")):
            world.come(name, 1, gate)
        self.assertEqual(world.trains(), ["a2", "b", "b1", "c"])
        world.leave("b")
        self.assertEqual(world.trains(), ["a2", "b1", "c"])

    def test_accidents_in_order(self):
        world = world_with(1, 2)
        world.come("u", 1, "h")
        world.come("v", 1, "h")
        world.turn("w", "right")
        went(world, "u", 2)
        world.go("t", free)
        world.turn("w", "left")
        world.leave("t")
        world.go("u", free)
        self.assertEqual(world.accidents(), [("crash", "h"), ("split", "w"), ("crash", "w"), ("crash", "q"),
                                             ("split", "w"), ("off", "w")])

    def test_what_was_told_is_the_askers_own(self):
        world = world_with(2, 2)
        world.turn("w", "right")
        ahead = told_of(world)
        told = [world.lies(), world.taken(), world.trains(), world.spots("t"), world.accidents()]
        for one in told:
            one.clear()
        self.assertEqual(told_of(world), ahead)
        spots, taken, trains = world.spots("t"), world.taken(), world.trains()
        spots[0] = ("q", "b")
        taken["q"] = True
        trains.append("u")
        world.lies()["w"] = "left"
        self.assertEqual(told_of(world), ahead)

    def test_what_was_told_stays(self):
        world = world_with(2, 2)
        ahead = told_of(world)
        told = (world.trains(), [world.spots("t")], world.lies(), world.taken(), world.accidents())
        world.turn("w", "right")
        went(world, "t", 1)
        world.come("u", 1, "h")
        world.about("t")
        world.leave("t")
        self.assertEqual((told[0], told[1], list(told[2].items()), list(told[3].items()), told[4]), ahead)
        self.assertNotEqual(told_of(world), ahead)

    def test_two_worlds_of_the_same_tracks(self):
        tracks = fork()
        one, two = World(tracks), World(tracks)
        one.turn("w", "right")
        one.come("t", 1, "g")
        one.come("u", 1, "g")
        self.assertEqual(told_of(two), ([], [], [("w", "left")], [(part, False) for part in "ghpqsw"], []))


class AsTheWordsSay(unittest.TestCase):
    def deed(self, chance, tracks, world, words):
        gates = [name for name in tracks.names() if isinstance(tracks.named(name), Gate)]
        trains = world.trains()
        kind = chance.choice(["come", "turn", "about", "leave"] + ["go"] * 8)
        if kind == "come" and len(trains) < 6:
            name = chance.choice([name for name in "abcdefg" if name not in trains])
            long, gate = chance.randint(1, 4), chance.choice(gates)
            self.assertIsNone(world.come(name, long, gate))
            words.come(name, long, gate)
        elif kind == "turn" and words.lies:
            points, lie = chance.choice(sorted(words.lies)), chance.choice(["left", "right"])
            self.assertIsNone(world.turn(points, lie))
            words.turn(points, lie)
        elif kind == "go" and trains:
            name, passed = chance.choice(trains), chance.random() < 0.8
            word = words.go(name, passed)
            self.assertEqual(world.go(name, Shows(passed)), word)
            return word
        elif kind == "about" and trains:
            name = chance.choice(trains)
            self.assertIsNone(world.about(name))
            words.about(name)
        elif kind == "leave" and trains and chance.random() < 0.3:
            name = chance.choice(trains)
            self.assertIsNone(world.leave(name))
            words.spots.pop(name)
        return kind

    def test_in_many_yards(self):
        chance = random.Random(13)
        found = {}
        yards = [tracks for tracks in some_yards() + [fork()] + [drawn_yard(chance) for k in range(60)]
                 if [name for name in tracks.names() if isinstance(tracks.named(name), Gate)]]
        for tracks in yards:
            world, words = World(tracks), WorldWords(tracks)
            for k in range(120):
                kind = self.deed(chance, tracks, world, words)
                found[kind] = found.get(kind, 0) + 1
                self.assertEqual(told_of(world), words.told())
        for word in ("went", "stop", "end", "crash", "off", "come", "turn", "about", "leave"):
            self.assertGreater(found.get(word, 0), 20, word)
        self.assertGreater(len(yards), 30)
