"""Names, and each kind of part (points 2 and 4)."""

import inspect
import unittest

from yardkeep.parts import Cross, Gate, Part, Plain, Points, Stop, is_name

LIES = ["", "left", "right", "stem", "a", "up", "Left"]
ENDS = ["", "a", "b", "c", "d", "e", "A", "stem", "left", "right", "up", "ab"]


def all_leads(part):
    """Whatever leads somewhere, of many ends and lies: everything else is to lead nowhere."""
    found = {}
    for end in ENDS:
        for lie in LIES:
            if part.leads(end, lie) != "":
                found[(end, lie)] = part.leads(end, lie)
    return found


class Names(unittest.TestCase):
    def test_names(self):
        for name in ["a", "z", "m", "ab", "a1", "a0", "z9", "abcdef", "a12345", "p1q2r3", "zzzzzz", "stem", "true"]:
            with self.subTest(name=name):
                self.assertIs(is_name(name), True)

    def test_every_letter_and_every_figure(self):
        for sign in "abcdefghijklmnopqrstuvwxyz":
            self.assertIs(is_name(sign), True)
            self.assertIs(is_name("q" + sign), True)
        for sign in "0123456789":
            self.assertIs(is_name(sign), False)
            self.assertIs(is_name("q" + sign), True)

    def test_every_other_sign_stands_in_no_name(self):
        for number in range(0x300):
            sign = chr(number)
            if sign not in "abcdefghijklmnopqrstuvwxyz0123456789":
                with self.subTest(number=number):
                    self.assertIs(is_name(sign), False)
                    self.assertIs(is_name("a" + sign), False)
                    self.assertIs(is_name("a" + sign + "b"), False)
                    self.assertIs(is_name(sign + "a"), False)

    def test_lengths(self):
        for length in range(12):
            with self.subTest(length=length):
                self.assertIs(is_name("a" * length), 1 <= length <= 6)
                self.assertIs(is_name(("a" + "1" * length)[:length]), 1 <= length <= 6)

    def test_texts_that_are_no_names(self):
        for text in ["", "abcdefg", "a123456", "1", "1a", "9abc", "A", "aB", "Ab", "ABC", " ", "a b", " a", "a ",
                     "a\n", "\na", "abcde\n", "abcdef\n", "a\nb", "a\t", "a_b", "_a", "a-b", "a.", "#", "a%",
                     "\u00e9", "a\u00e9", "\u00df", "a\u00b2", "a\u0663", "\u0430", "a\uff11", "\x00", "a\x00"]:
            with self.subTest(text=text):
                self.assertIs(is_name(text), False)

    def test_things_that_are_no_texts(self):
        for thing in [None, 0, 1, 7, -1, True, False, 1.5, b"a", [], ["a"], (), ("a",), ("a", "b"), {}, {"a": 1},
                      {"a"}, frozenset("a"), object(), Plain("a"), Plain, is_name]:
            with self.subTest(thing=thing):
                self.assertIs(is_name(thing), False)


class Kinds(unittest.TestCase):
    def test_which_class_is_under_which(self):
        for kind in (Plain, Stop, Gate, Points, Cross):
            self.assertTrue(issubclass(kind, Part))
        self.assertTrue(issubclass(Gate, Stop))
        self.assertIsInstance(Gate("g"), Stop)
        self.assertNotIsInstance(Stop("s"), Gate)
        for kind, others in ((Plain, (Stop, Points, Cross)), (Stop, (Plain, Points, Cross)),
                             (Points, (Plain, Stop, Cross)), (Cross, (Plain, Stop, Points))):
            self.assertFalse(issubclass(kind, others))

    def test_made_alike_with_a_name(self):
        for kind in (Part, Plain, Stop, Gate, Points, Cross):
            with self.subTest(kind=kind):
                self.assertEqual(kind("p1").name, "p1")
                self.assertEqual(kind(name="p2").name, "p2")
                self.assertEqual(str(inspect.signature(kind)), "(name)")
                self.assertEqual(str(inspect.signature(kind.ends)), "(self)")
                self.assertEqual(str(inspect.signature(kind.lies)), "(self)")
                self.assertEqual(str(inspect.signature(kind.leads)), "(self, end, lie='')")
                self.assertEqual(str(inspect.signature(kind.bears)), "(self)")

    def test_two_of_one_kind_keep_their_own_names(self):
        one = Plain("p1")
        two = Plain("p2")
        self.assertEqual((one.name, two.name), ("p1", "p2"))

    def test_ends_in_order(self):
        for kind, ends in ((Part, ["a", "b"]), (Plain, ["a", "b"]), (Stop, ["a"]), (Gate, ["a"]),
                           (Points, ["stem", "left", "right"]), (Cross, ["a", "b", "c", "d"])):
            with self.subTest(kind=kind):
                self.assertEqual(kind("p").ends(), ends)

    def test_lies_in_order(self):
        for kind in (Part, Plain, Stop, Gate, Cross):
            with self.subTest(kind=kind):
                self.assertEqual(kind("p").lies(), [""])
        self.assertEqual(Points("w").lies(), ["left", "right"])

    def test_what_bears_a_signal(self):
        for kind in (Part, Plain, Stop, Gate):
            with self.subTest(kind=kind):
                self.assertIs(kind("p").bears(), True)
        for kind in (Points, Cross):
            with self.subTest(kind=kind):
                self.assertIs(kind("p").bears(), False)


class Leads(unittest.TestCase):
    def test_plain(self):
        for kind in (Part, Plain):
            with self.subTest(kind=kind):
                self.assertEqual(all_leads(kind("p")), {("a", ""): "b", ("b", ""): "a"})

    def test_stop_and_gate(self):
        for kind in (Stop, Gate):
            with self.subTest(kind=kind):
                self.assertEqual(kind("s").leads("a"), "")
                self.assertEqual(all_leads(kind("s")), {("", ""): "a"})

    def test_points(self):
        self.assertEqual(all_leads(Points("w")), {("stem", "left"): "left", ("left", "left"): "stem",
                                                  ("stem", "right"): "right", ("right", "right"): "stem"})

    def test_cross(self):
        self.assertEqual(all_leads(Cross("x")), {("a", ""): "b", ("b", ""): "a", ("c", ""): "d", ("d", ""): "c"})

    def test_the_lie_left_out(self):
        for kind in (Part, Plain, Stop, Gate, Points, Cross):
            for end in ENDS:
                with self.subTest(kind=kind, end=end):
                    self.assertEqual(kind("p").leads(end), kind("p").leads(end, ""))
        self.assertEqual(Plain("p").leads("a"), "b")
        self.assertEqual(Cross("x").leads("c"), "d")
        self.assertEqual(Stop("s").leads(""), "a")
        self.assertEqual([Points("w").leads(end) for end in ["stem", "left", "right"]], ["", "", ""])

    def test_nowhere_is_the_empty_text(self):
        for part, end, lie in ((Plain("p"), "c", ""), (Plain("p"), "a", "left"), (Plain("p"), "", ""),
                               (Stop("s"), "a", ""), (Stop("s"), "b", ""), (Stop("s"), "", "left"),
                               (Gate("g"), "a", ""), (Points("w"), "right", "left"), (Points("w"), "left", "right"),
                               (Points("w"), "stem", "stem"), (Points("w"), "stem", "up"), (Points("w"), "", "left"),
                               (Cross("x"), "e", ""), (Cross("x"), "", ""), (Cross("x"), "a", "right")):
            with self.subTest(part=part, end=end, lie=lie):
                self.assertEqual(part.leads(end, lie), "")

    def test_the_lie_by_its_name(self):
        self.assertEqual(Points("w").leads("stem", lie="right"), "right")
        self.assertEqual(Points("w").leads(end="right", lie="right"), "stem")


class TheAskersOwn(unittest.TestCase):
    def test_lists_told_may_be_changed(self):
        for kind in (Part, Plain, Stop, Gate, Points, Cross):
            with self.subTest(kind=kind):
                part = kind("p")
                ends = list(part.ends())
                lies = list(part.lies())
                leads = all_leads(part)
                part.ends().append("z")
                part.ends().clear()
                part.lies().append("up")
                part.lies().clear()
                self.assertEqual(part.ends(), ends)
                self.assertEqual(part.lies(), lies)
                self.assertEqual(all_leads(part), leads)
                self.assertEqual(kind("q").ends(), ends)
                self.assertEqual(kind("q").lies(), lies)

    def test_what_was_told_stays(self):
        points = Points("w")
        ends = points.ends()
        lies = points.lies()
        points.ends().append("z")
        points.leads("stem", "left")
        self.assertEqual(ends, ["stem", "left", "right"])
        self.assertEqual(lies, ["left", "right"])
