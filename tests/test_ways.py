"""Steps over one part (point 6)."""

import inspect
import random
import unittest

from tests.helper import diamonds, drawn_yard, line, small_yard, some_yards, their_joins
from yardkeep.parts import Points, Stop
from yardkeep.tracks import Tracks
from yardkeep.ways import backward, ends_there, steps_into

INTO = {
    ("g", "a"): [("g", "a", "", "")],
    ("s", "a"): [("s", "a", "", "")],
    ("t", "a"): [("t", "a", "", "")],
    ("p", "a"): [("p", "a", "b", "")],
    ("p", "b"): [("p", "b", "a", "")],
    ("q", "a"): [("q", "a", "b", "")],
    ("q", "b"): [("q", "b", "a", "")],
    ("r", "a"): [("r", "a", "b", "")],
    ("r", "b"): [("r", "b", "a", "")],
    ("w", "stem"): [("w", "stem", "left", "left"), ("w", "stem", "right", "right")],
    ("w", "left"): [("w", "left", "stem", "left")],
    ("w", "right"): [("w", "right", "stem", "right")],
    ("x", "a"): [("x", "a", "b", "")],
    ("x", "b"): [("x", "b", "a", "")],
    ("x", "c"): [("x", "c", "d", "")],
    ("x", "d"): [("x", "d", "c", "")],
}
NO_ENDS = [("p", "c"), ("p", ""), ("p", "A"), ("nosuch", "a"), ("", "a"), ("", ""), ("w", "a"), ("w", ""), ("s", "b"),
           ("s", ""), ("g", ""), ("g", "b"), ("a", "p"), ("x", "stem"), ("x", "e"), ("x", "")]


class StepsInto(unittest.TestCase):
    def test_each_end_of_each_kind(self):
        self.assertEqual(sorted(INTO), sorted([end for join in their_joins() for end in join]))
        for end, steps in INTO.items():
            with self.subTest(end=end):
                self.assertEqual(steps_into(small_yard(), end), steps)

    def test_a_list_of_tuples(self):
        for end in INTO:
            with self.subTest(end=end):
                told = steps_into(small_yard(), end)
                self.assertIs(type(told), list)
                for step in told:
                    self.assertIs(type(step), tuple)
                    self.assertEqual(len(step), 4)

    def test_an_end_that_there_is_not(self):
        for end in NO_ENDS:
            with self.subTest(end=end):
                self.assertEqual(steps_into(small_yard(), end), [])

    def test_without_parts(self):
        self.assertEqual(steps_into(Tracks([], []), ("p", "a")), [])
        self.assertEqual(steps_into(Tracks([], []), ("", "")), [])

    def test_signals_and_joins_count_for_nothing(self):
        parts = [Points("w"), Stop("s"), Stop("t"), Stop("u")]
        joins = [(("w", "stem"), ("s", "a")), (("w", "left"), ("t", "a")), (("w", "right"), ("u", "a"))]
        for signals in (None, [("n", "s", "a"), ("m", "t", "a"), ("o", "u", "a")]):
            tracks = Tracks(parts, joins, signals)
            self.assertEqual(steps_into(tracks, ("w", "stem")), INTO[("w", "stem")])
            self.assertEqual(steps_into(tracks, ("s", "a")), INTO[("s", "a")])

    def test_sorted_and_none_twice_in_every_yard(self):
        chance = random.Random(6)
        for tracks in some_yards() + [drawn_yard(chance) for k in range(60)]:
            for name in tracks.names():
                for end in tracks.named(name).ends():
                    told = steps_into(tracks, (name, end))
                    self.assertEqual(told, sorted(set(told)))
                    self.assertEqual([step[:2] for step in told], [(name, end)] * len(told))

    def test_the_told_list_is_the_askers_own(self):
        tracks = small_yard()
        for end, steps in INTO.items():
            kept = steps_into(tracks, end)
            steps_into(tracks, end).clear()
            steps_into(tracks, end).append("new")
            self.assertEqual(steps_into(tracks, end), steps)
            self.assertEqual(kept, steps)

    def test_arguments(self):
        for function, told in ((steps_into, "(tracks, end)"), (ends_there, "(tracks, step)"), (backward, "(step)")):
            self.assertEqual(str(inspect.signature(function)), told)


class EndsThere(unittest.TestCase):
    def test_at_a_stop_and_at_a_gate(self):
        for name in ("s", "t", "g"):
            self.assertIs(ends_there(small_yard(), (name, "a", "", "")), True)
        self.assertIs(ends_there(line(0, None), ("s", "a", "", "")), True)
        self.assertIs(ends_there(line(0, None), ("g", "a", "", "")), True)

    def test_where_a_signal_stands(self):
        for step in [("p", "a", "b", ""), ("p", "b", "a", ""), ("r", "b", "a", "")]:
            with self.subTest(step=step):
                self.assertIs(ends_there(small_yard(), step), True)

    def test_where_none_stands(self):
        for step in [("q", "a", "b", ""), ("q", "b", "a", ""), ("x", "a", "b", ""), ("x", "d", "c", ""),
                     ("w", "stem", "left", "left"), ("w", "stem", "right", "right"), ("w", "left", "stem", "left")]:
            with self.subTest(step=step):
                self.assertIs(ends_there(small_yard(), step), False)

    def test_a_signal_at_the_entry_or_beyond_ends_nothing(self):
        self.assertIs(ends_there(small_yard(), ("r", "a", "b", "")), False)
        self.assertIs(ends_there(small_yard(), ("w", "right", "stem", "right")), False)
        self.assertIs(ends_there(small_yard(), ("x", "a", "b", "")), False)

    def test_the_way_out_of_a_stop_and_of_a_gate(self):
        self.assertIs(ends_there(small_yard(), ("g", "", "a", "")), True)
        self.assertIs(ends_there(small_yard(), ("s", "", "a", "")), True)
        self.assertIs(ends_there(small_yard(), ("t", "", "a", "")), False)

    def test_a_signal_called_like_the_part(self):
        tracks = line(1, [("p0", "p0", "a")])
        self.assertIs(ends_there(tracks, ("p0", "b", "a", "")), True)
        self.assertIs(ends_there(tracks, ("p0", "a", "b", "")), False)

    def test_without_signals(self):
        self.assertIs(ends_there(diamonds(1, None), ("w0", "stem", "left", "left")), False)
        self.assertIs(ends_there(line(2, None), ("p0", "a", "b", "")), False)


class Backward(unittest.TestCase):
    def test_a_step(self):
        for step, other in [(("p", "a", "b", ""), ("p", "b", "a", "")), (("s", "a", "", ""), ("s", "", "a", "")),
                            (("g", "", "a", ""), ("g", "a", "", "")), (("x", "c", "d", ""), ("x", "d", "c", "")),
                            (("w", "stem", "right", "right"), ("w", "right", "stem", "right")),
                            (("w", "left", "stem", "left"), ("w", "stem", "left", "left"))]:
            with self.subTest(step=step):
                self.assertEqual(backward(step), other)
                self.assertIs(type(backward(step)), tuple)
                self.assertEqual(backward(other), step)
                self.assertEqual(backward(backward(step)), step)

    def test_every_step_of_a_yard(self):
        for steps in INTO.values():
            for step in steps:
                self.assertEqual(backward(backward(step)), step)
                if step[2] != "":
                    self.assertIn(backward(step), steps_into(small_yard(), (step[0], step[2])))
