"""Eyes (point 14)."""

import inspect
import itertools
import unittest

from yardkeep.errors import BadName, OneFault
from yardkeep.eyes import Eyes

THINGS = [None, True, False, 0, 1, -3, "", "P", "p ", " p", "nosuch", "p0", "a", "blind", "stuck", [], ["p"], ("p",),
          ("p", "a"), {}, {"p": True}, [["p"]], {"p"}]
WAYS = [None, True, False, 0, 1, "", "Blind", "BLIND", "blind ", "stuc", "stuckk", "ok", "mend", "p", [], ["blind"],
        ("blind",), {}, {"blind": True}]


def eyes():
    return Eyes(["w", "p", "g"])


class Fail(unittest.TestCase):
    def test_each_part_each_way(self):
        for part, way in itertools.product(["w", "p", "g"], ["blind", "stuck"]):
            some = eyes()
            self.assertIsNone(some.fail(part, way))
            self.assertEqual(some.fault(), (part, way))
            self.assertIs(type(some.fault()), tuple)

    def test_a_part_that_there_is_not(self):
        for thing in THINGS:
            some = eyes()
            with self.subTest(thing=thing), self.assertRaises(BadName):
                some.fail(thing, "blind")
            self.assertIsNone(some.fault())

    def test_another_way(self):
        for thing in WAYS:
            some = eyes()
            with self.subTest(thing=thing), self.assertRaises(BadName):
                some.fail("p", thing)
            self.assertIsNone(some.fault())

    def test_one_fault(self):
        for part, way in itertools.product(["w", "p", "g"], ["blind", "stuck"]):
            some = eyes()
            some.fail("p", "blind")
            with self.subTest(part=part, way=way), self.assertRaises(OneFault):
                some.fail(part, way)
            self.assertEqual(some.fault(), ("p", "blind"))
            self.assertEqual(some.tells({"g": True, "p": True}), {"g": True, "p": False, "w": False})

    def test_bad_names_ahead_of_one_fault(self):
        for held in ("blind", "stuck"):
            some = eyes()
            some.fail("p", held)
            for thing in THINGS:
                with self.subTest(part=thing), self.assertRaises(BadName):
                    some.fail(thing, "stuck")
            for thing in WAYS:
                with self.subTest(way=thing), self.assertRaises(BadName):
                    some.fail("p", thing)
            with self.assertRaises(BadName):
                some.fail("nosuch", "none")
            self.assertEqual(some.fault(), ("p", held))

    def test_no_names(self):
        with self.assertRaises(BadName):
            Eyes([]).fail("p", "blind")

    def test_what_was_refused_is_done_when_it_was_mended(self):
        some = eyes()
        some.fail("p", "blind")
        for part, way in (("g", "stuck"), ("p", "blind"), ("p", "stuck")):
            with self.assertRaises(OneFault):
                some.fail(part, way)
            some.mend()
            self.assertIsNone(some.fail(part, way))
            self.assertEqual(some.fault(), (part, way))


class Mend(unittest.TestCase):
    def test_none_is_at_fault_then(self):
        some = eyes()
        some.fail("g", "stuck")
        self.assertIsNone(some.mend())
        self.assertIsNone(some.fault())
        self.assertEqual(some.tells({"w": True}), {"g": False, "p": False, "w": True})

    def test_without_a_fault(self):
        some = eyes()
        self.assertIsNone(some.mend())
        self.assertIsNone(some.mend())
        self.assertIsNone(some.fault())

    def test_other_eyes_stay(self):
        one, two = eyes(), eyes()
        one.fail("p", "stuck")
        two.fail("p", "blind")
        one.mend()
        self.assertEqual((one.fault(), two.fault()), (None, ("p", "blind")))


class Fault(unittest.TestCase):
    def test_with_and_without(self):
        some = eyes()
        self.assertIsNone(some.fault())
        some.fail("w", "stuck")
        self.assertEqual(some.fault(), ("w", "stuck"))
        self.assertEqual(some.fault(), ("w", "stuck"))

    def test_what_was_told_stays(self):
        some = eyes()
        some.fail("w", "stuck")
        told = some.fault()
        some.mend()
        some.fail("p", "blind")
        self.assertEqual(told, ("w", "stuck"))


class Tells(unittest.TestCase):
    def test_of_all_names_sorted(self):
        told = eyes().tells({"w": True, "p": False, "g": True})
        self.assertEqual(list(told.items()), [("g", True), ("p", False), ("w", True)])
        self.assertIs(type(told), dict)
        self.assertEqual(list(Eyes(["b1", "b", "a2", "b0"]).tells({})), ["a2", "b", "b0", "b1"])
        self.assertEqual(Eyes([]).tells({"p": True}), {})

    def test_a_part_that_is_missing_is_empty(self):
        self.assertEqual(eyes().tells({}), {"g": False, "p": False, "w": False})
        self.assertEqual(eyes().tells({"p": True}), {"g": False, "p": True, "w": False})

    def test_a_part_that_has_no_eye_doesnt_count(self):
        self.assertEqual(eyes().tells({"x": True, "p": True, "y": False}), {"g": False, "p": True, "w": False})

    def test_truths_alone(self):
        for fault in (None, "blind", "stuck"):
            some = eyes()
            if fault:
                some.fail("p", fault)
            for taken in ({}, {"p": True}, {"p": False, "g": True}):
                self.assertEqual([value for value in some.tells(taken).values() if value not in (True, False)], [])
                self.assertTrue(all([isinstance(value, bool) for value in some.tells(taken).values()]))

    def test_every_fault(self):
        for fault in [None] + list(itertools.product("gpw", ["blind", "stuck"])):
            some = eyes()
            if fault:
                some.fail(fault[0], fault[1])
            for marks in itertools.product([True, False, None], repeat=3):
                taken = dict([(part, mark) for part, mark in zip("wgp", marks) if mark is not None])
                wanted = dict([(part, taken.get(part, False)) for part in "gpw"])
                if fault:
                    wanted[fault[0]] = fault[1] == "stuck"
                with self.subTest(fault=fault, taken=taken):
                    self.assertEqual(list(some.tells(taken).items()), list(wanted.items()))

    def test_the_dict_handed_in_stays(self):
        for way in ("blind", "stuck"):
            some = eyes()
            some.fail("p", way)
            for taken in ({"x": True, "w": True, "p": True}, {"p": False}, {}):
                ahead = list(taken.items())
                some.tells(taken).clear()
                self.assertEqual(list(taken.items()), ahead)

    def test_what_was_told_is_the_askers_own(self):
        some = eyes()
        taken = {"p": True}
        told = some.tells(taken)
        taken["g"] = True
        some.fail("p", "blind")
        self.assertEqual(told, {"g": False, "p": True, "w": False})
        told["w"] = True
        told["z"] = True
        self.assertEqual(some.tells({"p": True}), {"g": False, "p": False, "w": False})

    def test_the_names_handed_in(self):
        names = ["w", "p", "g"]
        some = Eyes(names)
        self.assertEqual(names, ["w", "p", "g"])
        names.append("z")
        names.remove("p")
        self.assertEqual(some.tells({"z": True}), {"g": False, "p": False, "w": False})
        with self.assertRaises(BadName):
            some.fail("z", "blind")
        self.assertIsNone(some.fail("p", "stuck"))
        self.assertEqual(names, ["w", "g", "z"])

    def test_arguments(self):
        self.assertEqual(str(inspect.signature(Eyes)), "(names)")
        for method, told in ((eyes().fail, "(part, way)"), (eyes().mend, "()"), (eyes().fault, "()"),
                             (eyes().tells, "(taken)")):
            self.assertEqual(str(inspect.signature(method)), told)
