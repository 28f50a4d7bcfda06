"""Tracks: what they tell, and what they refuse, in which order (points 2, 3 and 5)."""

import inspect
import unittest

from tests.helper import every_kind, ring, small_yard, their_joins, their_signals
from yardkeep.errors import BadEnd, BadName, TooMany
from yardkeep.parts import Cross, Gate, Plain, Points, Stop
from yardkeep.tracks import Tracks

WHATEVER = ["", "nosuch", "P", "p ", "abcdefg", None, 0, 1, True, False, 1.5, [], ["p"], (), ("p",), ("p", "a"),
            {}, {"p": 1}, {"p"}, Plain("p")]
NO_ENDS = [("p", "c"), ("p", ""), ("p", "A"), ("nosuch", "a"), ("", "a"), ("", ""), ("w", "a"), ("s", "b"),
           ("a", "p"), ("x", "stem")]


def two(signals=None):
    return Tracks([Stop("s"), Gate("g")], [(("s", "a"), ("g", "a"))], signals)


def ring_signals(count):
    return [("s" + str(k), "p" + str(k // 2), "ab"[k % 2]) for k in range(count)]


class Tells(unittest.TestCase):
    def test_names(self):
        self.assertEqual(small_yard().names(), ["g", "p", "q", "r", "s", "t", "w", "x"])

    def test_names_are_sorted_as_texts(self):
        parts = [Stop("p9"), Stop("p10"), Stop("p"), Stop("b")]
        tracks = Tracks(parts, [(("p9", "a"), ("p10", "a")), (("b", "a"), ("p", "a"))])
        self.assertEqual(tracks.names(), ["b", "p", "p10", "p9"])

    def test_named(self):
        parts = every_kind()
        tracks = Tracks(parts, their_joins())
        for part in parts:
            with self.subTest(name=part.name):
                self.assertIs(tracks.named(part.name), part)

    def test_beyond(self):
        tracks = small_yard()
        for one, other in their_joins():
            with self.subTest(one=one, other=other):
                self.assertEqual(tracks.beyond(one), other)
                self.assertEqual(tracks.beyond(other), one)
                self.assertIsInstance(tracks.beyond(one), tuple)

    def test_beyond_an_end_that_there_is_not(self):
        for end in NO_ENDS:
            with self.subTest(end=end):
                self.assertEqual(small_yard().beyond(end), ("", ""))

    def test_signal_at(self):
        tracks = small_yard()
        at = dict([((part, end), name) for name, part, end in their_signals()])
        for join in their_joins():
            for end in join:
                with self.subTest(end=end):
                    self.assertEqual(tracks.signal_at(end), at.get(end, ""))

    def test_signal_at_an_end_that_there_is_not(self):
        for end in NO_ENDS:
            with self.subTest(end=end):
                self.assertEqual(small_yard().signal_at(end), "")

    def test_ends_that_are_no_pairs_of_texts(self):
        for end in WHATEVER[:-1] + [("p", "a", "b"), ("p", []), ([], "a"), ["p", "a"], ("p", None), "pa"]:
            if end != ("p", "a"):
                with self.subTest(end=end):
                    self.assertEqual(small_yard().beyond(end), ("", ""))
                    self.assertEqual(small_yard().signal_at(end), "")

    def test_signals(self):
        self.assertEqual(small_yard().signals(), [("a1", "r", "a"), ("g", "g", "a"), ("m", "p", "a"),
                                                  ("sp", "p", "b"), ("z1", "s", "a")])
        for triple in small_yard().signals():
            self.assertIsInstance(triple, tuple)

    def test_end_of(self):
        for name, part, end in their_signals():
            with self.subTest(name=name):
                self.assertEqual(small_yard().end_of(name), (part, end))
                self.assertIsInstance(small_yard().end_of(name), tuple)

    def test_a_signal_called_like_a_part(self):
        tracks = two([("s", "g", "a"), ("g", "s", "a")])
        self.assertEqual(tracks.end_of("s"), ("g", "a"))
        self.assertEqual(tracks.end_of("g"), ("s", "a"))
        self.assertEqual(tracks.signal_at(("g", "a")), "s")
        self.assertIsInstance(tracks.named("s"), Stop)
        self.assertIsInstance(tracks.named("g"), Gate)

    def test_a_part_is_no_signal_and_a_signal_no_part(self):
        with self.assertRaises(BadName):
            small_yard().named("sp")
        with self.assertRaises(BadName):
            small_yard().end_of("p")

    def test_a_signal_at_each_end_that_bears_one(self):
        ends = [("g", "a"), ("p", "a"), ("p", "b"), ("s", "a"), ("q", "a"), ("q", "b"), ("r", "a"), ("r", "b"),
                ("t", "a")]
        signals = [("n" + str(k), end[0], end[1]) for k, end in enumerate(ends)]
        self.assertEqual(Tracks(every_kind(), their_joins(), signals).signals(), signals)

    def test_no_parts(self):
        for tracks in (Tracks([], []), Tracks([], [], None), Tracks([], [], [])):
            self.assertEqual(tracks.names(), [])
            self.assertEqual(tracks.signals(), [])
            self.assertEqual(tracks.beyond(("p", "a")), ("", ""))
            self.assertEqual(tracks.signal_at(("p", "a")), "")
            with self.assertRaises(BadName):
                tracks.named("p")
            with self.assertRaises(BadName):
                tracks.end_of("p")

    def test_signals_left_out_and_none(self):
        stop_and_gate = ([Stop("s"), Gate("g")], [(("s", "a"), ("g", "a"))])
        for tracks in (Tracks(stop_and_gate[0], stop_and_gate[1]), two(None), two([])):
            self.assertEqual(tracks.names(), ["g", "s"])
            self.assertEqual(tracks.signals(), [])
            self.assertEqual(tracks.signal_at(("s", "a")), "")

    def test_arguments(self):
        self.assertEqual(str(inspect.signature(Tracks)), "(parts, joins, signals=None)")
        for method, told in ((Tracks.names, "(self)"), (Tracks.named, "(self, name)"), (Tracks.beyond, "(self, end)"),
                             (Tracks.signal_at, "(self, end)"), (Tracks.signals, "(self)"),
                             (Tracks.end_of, "(self, signal)")):
            self.assertEqual(str(inspect.signature(method)), told)

    def test_two_tracks_are_apart(self):
        one = two([("s1", "s", "a")])
        other = two([("s2", "g", "a")])
        self.assertEqual(one.signals(), [("s1", "s", "a")])
        self.assertEqual(other.signals(), [("s2", "g", "a")])


class NoSuchName(unittest.TestCase):
    def test_named(self):
        for thing in WHATEVER:
            with self.subTest(thing=thing):
                with self.assertRaises(BadName):
                    small_yard().named(thing)

    def test_end_of(self):
        for thing in WHATEVER:
            with self.subTest(thing=thing):
                with self.assertRaises(BadName):
                    small_yard().end_of(thing)

    def test_a_refusal_changes_nothing(self):
        tracks = small_yard()
        for thing in WHATEVER:
            for ask in (tracks.named, tracks.end_of):
                with self.assertRaises(BadName):
                    ask(thing)
        self.assertEqual(tracks.names(), small_yard().names())
        self.assertEqual(tracks.signals(), small_yard().signals())


class HowMany(unittest.TestCase):
    def test_forty_parts(self):
        parts, joins = ring(40)
        self.assertEqual(len(Tracks(parts, joins).names()), 40)

    def test_forty_one_parts(self):
        for count in (41, 42, 80):
            parts, joins = ring(count)
            with self.assertRaises(TooMany):
                Tracks(parts, joins)

    def test_forty_signals(self):
        parts, joins = ring(40)
        self.assertEqual(Tracks(parts, joins, ring_signals(40)).signals(), sorted(ring_signals(40)))

    def test_forty_one_signals(self):
        parts, joins = ring(40)
        for count in (41, 80):
            with self.assertRaises(TooMany):
                Tracks(parts, joins, ring_signals(count))

    def test_more_than_forty_joins_are_good(self):
        parts = [Cross("x" + str(k)) for k in range(40)]
        joins = []
        for k in range(40):
            joins.append((("x" + str(k - 1 if k else 39), "b"), ("x" + str(k), "a")))
            joins.append((("x" + str(k - 1 if k else 39), "d"), ("x" + str(k), "c")))
        self.assertEqual(Tracks(parts, joins).beyond(("x39", "d")), ("x0", "c"))


class Refusals(unittest.TestCase):
    def refused(self, refusal, parts, joins, signals=None):
        with self.assertRaises(refusal) as caught:
            Tracks(parts, joins, signals)
        self.assertIs(type(caught.exception), refusal)

    def test_a_part_without_a_name(self):
        for thing in ["", "abcdefg", "S", "1s", "s\n", "s t", None, 7, True, [], ["s"], ("s",), {}]:
            with self.subTest(thing=thing):
                self.refused(BadName, [Stop(thing), Gate("g")], [((thing, "a"), ("g", "a"))])
                self.refused(BadName, [Gate("g"), Stop(thing)], [(("g", "a"), (thing, "a"))])

    def test_two_parts_of_one_name(self):
        self.refused(BadName, [Stop("s"), Stop("s")], [(("s", "a"), ("s", "a"))])
        self.refused(BadName, [Stop("s"), Gate("g"), Points("s")], [(("s", "a"), ("g", "a"))])
        same = Stop("s")
        self.refused(BadName, [same, Gate("g"), same], [(("s", "a"), ("g", "a"))])

    def test_a_join_of_an_end_that_there_is_not(self):
        for end in NO_ENDS:
            with self.subTest(end=end):
                self.refused(BadEnd, every_kind(), their_joins() + [(("p", "a"), end)])
                self.refused(BadEnd, [Stop("s"), Gate("g")], [(end, ("s", "a"))])
                self.refused(BadEnd, [Stop("s"), Gate("g")], [(("s", "a"), ("g", "a")), (end, end)])

    def test_a_join_of_things_that_are_no_ends(self):
        for thing in [None, 7, "g", "ga", [], ["g", "a"], ("g",), ("g", "a", "a"), ("g", []), ({}, "a"), {}]:
            with self.subTest(thing=thing):
                self.refused(BadEnd, [Stop("s"), Gate("g")], [(("s", "a"), thing)])
                self.refused(BadEnd, [Stop("s"), Gate("g")], [(thing, ("s", "a"))])

    def test_a_join_that_is_no_pair(self):
        for join in [(), (("s", "a"),), (("s", "a"), ("g", "a"), ("g", "a")), None, 7, "sg"]:
            with self.subTest(join=join):
                self.refused(BadEnd, [Stop("s"), Gate("g")], [join])

    def test_a_join_of_two_ends_of_one_part(self):
        self.refused(BadEnd, [Plain("p")], [(("p", "a"), ("p", "b"))])
        self.refused(BadEnd, [Points("w"), Stop("s")], [(("w", "left"), ("w", "right")), (("w", "stem"), ("s", "a"))])
        self.refused(BadEnd, [Cross("x")], [(("x", "a"), ("x", "c")), (("x", "b"), ("x", "d"))])

    def test_a_join_of_an_end_with_itself(self):
        self.refused(BadEnd, [Stop("s")], [(("s", "a"), ("s", "a"))])
        self.refused(BadEnd, [Stop("s"), Gate("g")], [(("s", "a"), ("s", "a")), (("g", "a"), ("g", "a"))])

    def test_an_end_joined_twice(self):
        stops = [Stop("s"), Stop("t"), Stop("u"), Stop("v")]
        first = (("s", "a"), ("t", "a"))
        for join in [(("s", "a"), ("u", "a")), (("u", "a"), ("s", "a")), (("t", "a"), ("u", "a")),
                     (("u", "a"), ("t", "a")), (("s", "a"), ("t", "a")), (("t", "a"), ("s", "a"))]:
            with self.subTest(join=join):
                self.refused(BadEnd, stops, [first, join])
                self.refused(BadEnd, stops, [first, join, (("u", "a"), ("v", "a"))])
                self.refused(BadEnd, stops, [first, (("u", "a"), ("v", "a")), join])

    def test_an_end_left_over(self):
        self.refused(BadEnd, [Stop("s")], [])
        self.refused(BadEnd, [Stop("s"), Gate("g")], [])
        self.refused(BadEnd, [Stop("s"), Plain("p")], [(("s", "a"), ("p", "a"))])
        for k in range(len(their_joins())):
            with self.subTest(k=k):
                self.refused(BadEnd, every_kind(), their_joins()[:k] + their_joins()[k + 1:])

    def test_a_join_without_parts(self):
        self.refused(BadEnd, [], [(("s", "a"), ("g", "a"))])

    def test_a_signal_without_a_name(self):
        for thing in ["", "abcdefg", "S", "1s", "s\n", "s t", None, 7, True, [], ["s"], ("s",), {}]:
            with self.subTest(thing=thing):
                self.refused(BadName, every_kind(), their_joins(), [(thing, "p", "a")])
                self.refused(BadName, every_kind(), their_joins(), [("n", "p", "b"), (thing, "p", "a")])

    def test_two_signals_of_one_name(self):
        self.refused(BadName, every_kind(), their_joins(), [("n", "p", "a"), ("n", "p", "b")])
        self.refused(BadName, every_kind(), their_joins(), [("n", "p", "a"), ("m", "p", "b"), ("n", "q", "b")])

    def test_a_signal_at_an_end_that_there_is_not(self):
        for end in NO_ENDS + [("p", None), (None, "a"), ("p", []), ([], "a"), ({}, {}), (7, 7)]:
            with self.subTest(end=end):
                self.refused(BadEnd, every_kind(), their_joins(), [("n", end[0], end[1])])
        self.refused(BadEnd, [], [], [("n", "p", "a")])

    def test_a_signal_at_a_part_that_bears_none(self):
        for end in [("w", "stem"), ("w", "left"), ("w", "right"), ("x", "a"), ("x", "b"), ("x", "c"), ("x", "d")]:
            with self.subTest(end=end):
                self.refused(BadEnd, every_kind(), their_joins(), [("n", end[0], end[1])])

    def test_two_signals_at_one_end(self):
        self.refused(BadEnd, every_kind(), their_joins(), [("n", "p", "a"), ("m", "p", "a")])
        self.refused(BadEnd, every_kind(), their_joins(), [("n", "p", "a"), ("m", "p", "b"), ("o", "p", "a")])

    def test_what_was_refused_is_done_where_it_has_become_good(self):
        parts = every_kind()
        joins = their_joins()[1:]
        self.refused(BadEnd, parts, joins)
        joins.append(their_joins()[0])
        signals = [("n", "p", "a"), ("n", "p", "b")]
        self.refused(BadName, parts, joins, signals)
        signals[1] = ("m", "p", "b")
        self.assertEqual(Tracks(parts, joins, signals).signals(), [("m", "p", "b"), ("n", "p", "a")])


class ToldFirst(unittest.TestCase):
    def refused(self, refusal, parts, joins, signals=None):
        with self.assertRaises(refusal):
            Tracks(parts, joins, signals)

    def test_too_many_ahead_of_all(self):
        many_parts, many_joins = ring(41)
        self.refused(TooMany, many_parts[:40] + [Plain("p0")], many_joins)
        self.refused(TooMany, [Plain("")] * 41, [])
        self.refused(TooMany, many_parts, [])
        self.refused(TooMany, many_parts, many_joins, [("", "", "")])
        self.refused(TooMany, many_parts, many_joins, [("n", "p0", "c")])
        many_signals = [("", "p", "c")] * 41
        self.refused(TooMany, [Stop("")], [], many_signals)
        self.refused(TooMany, [Stop("s"), Stop("s")], [], many_signals)
        self.refused(TooMany, [Stop("s")], [], many_signals)
        self.refused(TooMany, [], [], many_signals)

    def test_a_parts_name_ahead_of_joins_and_signals(self):
        self.refused(BadName, [Stop("s"), Stop("")], [(("s", "c"), ("s", "d"))])
        self.refused(BadName, [Stop("s"), Stop("s")], [])
        self.refused(BadName, [Stop("s"), Stop("s")], [], [("n", "s", "c")])

    def test_joins_ahead_of_signals(self):
        bad_signal = [("", "p", "a")]
        self.refused(BadEnd, every_kind(), their_joins()[1:], bad_signal)
        self.refused(BadEnd, every_kind(), their_joins() + [their_joins()[0]], bad_signal)
        self.refused(BadEnd, every_kind(), their_joins() + [(("p", "c"), ("q", "a"))], bad_signal)
        self.refused(BadEnd, [Plain("p")], [(("p", "a"), ("p", "b"))], bad_signal)
        self.refused(BadEnd, [Stop("s")], [], [("n", "s", "a"), ("n", "s", "a")])

    def test_a_signals_name_ahead_of_its_end(self):
        self.refused(BadName, every_kind(), their_joins(), [("", "p", "c")])
        self.refused(BadName, every_kind(), their_joins(), [("N", "w", "stem")])
        self.refused(BadName, every_kind(), their_joins(), [("n", "p", "a"), ("n", "p", "a")])
        self.refused(BadName, every_kind(), their_joins(), [("n", "p", "a"), ("n", "x", "a")])

    def test_signals_one_by_one(self):
        self.refused(BadEnd, every_kind(), their_joins(), [("n", "p", "c"), ("", "p", "a")])
        self.refused(BadEnd, every_kind(), their_joins(), [("n", "w", "stem"), ("n", "p", "a")])
        self.refused(BadEnd, every_kind(), their_joins(), [("n", "p", "a"), ("m", "p", "a"), ("n", "p", "b")])
        self.refused(BadName, every_kind(), their_joins(), [("", "p", "a"), ("n", "p", "c")])
        self.refused(BadName, every_kind(), their_joins(), [("n", "p", "a"), ("n", "p", "b"), ("m", "p", "c")])


class NothingHangsOnIt(unittest.TestCase):
    def told(self, tracks):
        ends = [end for join in their_joins() for end in join]
        return [tracks.names(), tracks.signals(), [tracks.beyond(end) for end in ends],
                [tracks.signal_at(end) for end in ends],
                [tracks.end_of(triple[0]) for triple in their_signals()],
                [tracks.named(part.name).name for part in every_kind()]]

    def test_nothing_handed_in_is_changed(self):
        parts, joins, signals = every_kind(), their_joins(), their_signals()
        parts_then = list(parts)
        self.told(Tracks(parts, joins, signals))
        self.assertEqual(parts, parts_then)
        self.assertEqual([part.name for part in parts], [part.name for part in every_kind()])
        self.assertEqual(joins, their_joins())
        self.assertEqual(signals, their_signals())

    def test_nothing_refused_is_changed(self):
        parts, joins, signals = every_kind(), their_joins(), their_signals() + [("m", "p", "a")]
        parts_then = list(parts)
        with self.assertRaises(BadName):
            Tracks(parts, joins, signals)
        self.assertEqual(parts, parts_then)
        self.assertEqual(joins, their_joins())
        self.assertEqual(signals, their_signals() + [("m", "p", "a")])

    def test_lists_handed_in_may_be_changed(self):
        parts, joins, signals = every_kind(), their_joins(), their_signals()
        tracks = Tracks(parts, joins, signals)
        parts.append(Stop("new"))
        parts[0] = Plain("g")
        joins[0] = (("g", "a"), ("t", "a"))
        joins.pop()
        signals[0] = ("other", "q", "a")
        signals.append(("new", "t", "a"))
        self.assertEqual(self.told(tracks), self.told(small_yard()))
        self.assertIsInstance(tracks.named("g"), Gate)
        for told in (parts, joins, signals):
            told.clear()
        self.assertEqual(self.told(tracks), self.told(small_yard()))

    def test_an_empty_list_of_signals_may_be_changed(self):
        signals = []
        tracks = two(signals)
        signals.append(("n", "s", "a"))
        self.assertEqual(tracks.signals(), [])
        self.assertEqual(two().signals(), [])

    def test_lists_told_may_be_changed(self):
        tracks = small_yard()
        tracks.names().append("new")
        tracks.names().clear()
        tracks.signals().append(("new", "t", "a"))
        tracks.signals().clear()
        tracks.named("w").ends().clear()
        self.assertEqual(self.told(tracks), self.told(small_yard()))

    def test_what_was_told_stays(self):
        tracks = small_yard()
        names, signals = tracks.names(), tracks.signals()
        tracks.names().clear()
        tracks.signals().clear()
        self.assertEqual(names, small_yard().names())
        self.assertEqual(signals, small_yard().signals())
