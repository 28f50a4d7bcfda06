"""Paths (points 8 and 9)."""

import inspect
import itertools
import random
import unittest

from tests.helper import drawn_yard, eight, line, line_steps, loop, small_yard, some_yards
from yardkeep.errors import Held, YardError
from yardkeep.paths import given_back, holder, joins_on, longer, parts_of, shortened, turned_path
from yardkeep.routes import routes_from
from yardkeep.tracks import Tracks

ONE = [("g", "", "a", ""), ("p", "a", "b", "")]
TWO = [("s", "", "a", "")]
MORE = [("w", "stem", "right", "right"), ("x", "c", "d", ""), ("q", "a", "b", "")]


def some_paths():
    return {"two": list(TWO), "one": list(ONE), "none": []}


def plains(count):
    return [("p" + str(k), "a", "b", "") for k in range(count)]


def seen_as(word):
    """What eyes tell of p0, p1, ..: x is taken, o is empty, . isn't in it."""
    return dict([("p" + str(k), sign == "x") for k, sign in enumerate(word) if sign != "."])


def back(word, length):
    return given_back(plains(len(word)), length, seen_as(word))


def can_go(path, length, seen, place):
    """Point 9, word by word, of the step at a place."""
    if place > 0 and not can_go(path, length, seen, place - 1):
        return False
    taken = [seen.get(step[0], False) for step in path]
    return not taken[place] and any([taken[other] for other in range(len(path)) if other - place >= length])


class HolderAndParts(unittest.TestCase):
    def test_holder(self):
        for part, train in (("s", "two"), ("g", "one"), ("p", "one"), ("w", ""), ("nosuch", ""), ("", ""), ("a", "")):
            with self.subTest(part=part):
                self.assertEqual(holder(some_paths(), part), train)

    def test_no_paths(self):
        self.assertEqual(holder({}, "p"), "")
        self.assertEqual(holder({"one": [], "two": []}, "p"), "")

    def test_the_part_alone_counts(self):
        for word in ("stem", "right", "left", "one"):
            self.assertEqual(holder({"one": MORE}, word), "")
        self.assertEqual(holder({"p": TWO, "q": ONE}, "p"), "q")

    def test_parts(self):
        self.assertEqual(parts_of([]), [])
        self.assertEqual(parts_of(TWO), ["s"])
        self.assertEqual(parts_of(MORE), ["w", "x", "q"])
        self.assertEqual(parts_of(list(reversed(MORE))), ["q", "x", "w"])
        self.assertEqual(parts_of(MORE + MORE[:1]), ["w", "x", "q", "w"])

    def test_parts_of_a_routes_steps(self):
        self.assertEqual(parts_of(tuple(MORE)), ["w", "x", "q"])
        self.assertIs(type(parts_of(tuple(MORE))), list)

    def test_nothing_handed_in_is_changed(self):
        paths, steps = some_paths(), list(MORE)
        holder(paths, "p")
        parts_of(steps).clear()
        self.assertEqual(paths, some_paths())
        self.assertEqual(steps, MORE)

    def test_arguments(self):
        for function, told in ((holder, "(paths, part)"), (parts_of, "(steps)"), (longer, "(paths, train, steps)"),
                               (given_back, "(path, length, seen)"), (shortened, "(paths, lengths, seen)"),
                               (turned_path, "(path)"), (joins_on, "(tracks, path)")):
            self.assertEqual(str(inspect.signature(function)), told)


class Longer(unittest.TestCase):
    def held(self, part, paths, train, steps):
        with self.assertRaises(YardError) as caught:
            longer(paths, train, steps)
        self.assertIs(type(caught.exception), Held)
        self.assertEqual(caught.exception.part, part)

    def test_a_train_with_a_path(self):
        told = longer(some_paths(), "one", MORE)
        self.assertEqual(list(told.items()), [("two", TWO), ("one", ONE + MORE), ("none", [])])

    def test_the_first_train_keeps_its_place(self):
        told = longer(some_paths(), "two", MORE)
        self.assertEqual(list(told.items()), [("two", TWO + MORE), ("one", ONE), ("none", [])])

    def test_a_train_with_an_empty_path_keeps_its_place(self):
        paths = {"none": [], "one": list(ONE)}
        self.assertEqual(list(longer(paths, "none", MORE).items()), [("none", MORE), ("one", ONE)])

    def test_a_train_without_a_path_stands_last(self):
        told = longer(some_paths(), "a", MORE)
        self.assertEqual(list(told.items()), [("two", TWO), ("one", ONE), ("none", []), ("a", MORE)])
        self.assertEqual(list(longer({}, "a", MORE).items()), [("a", MORE)])

    def test_no_steps(self):
        self.assertEqual(list(longer(some_paths(), "one", []).items()), list(some_paths().items()))
        self.assertEqual(list(longer(some_paths(), "a", []).items()), list(some_paths().items()) + [("a", [])])
        self.assertEqual(longer({}, "a", []), {"a": []})

    def test_plain_dicts_and_lists(self):
        told = longer(some_paths(), "a", tuple(MORE))
        self.assertIs(type(told), dict)
        self.assertEqual([type(path) for path in told.values()], [list] * 4)
        self.assertEqual(told["a"], MORE)
        self.assertEqual(longer(some_paths(), "one", tuple(MORE))["one"], ONE + MORE)

    def test_whether_steps_join_is_not_looked_at(self):
        steps = [("z", "", "", ""), ("y", "left", "up", "down")]
        self.assertEqual(longer({"one": ONE}, "one", steps), {"one": ONE + steps})

    def test_held_by_another(self):
        self.held("s", some_paths(), "one", MORE + TWO)
        self.held("g", some_paths(), "two", ONE)
        self.held("p", some_paths(), "new", [("p", "b", "a", ""), ("g", "a", "", "")])

    def test_held_by_itself(self):
        self.held("p", some_paths(), "one", [("p", "b", "a", "")])
        self.held("g", some_paths(), "one", MORE + ONE)

    def test_ahead_in_steps(self):
        self.held("w", some_paths(), "one", MORE + MORE)
        self.held("x", {}, "one", [("x", "a", "b", ""), ("l", "a", "b", ""), ("x", "c", "d", "")])
        self.held("x", {}, "one", [("x", "a", "b", ""), ("x", "a", "b", "")])

    def test_the_first_part_of_steps(self):
        self.held("s", some_paths(), "new", MORE + TWO + ONE)
        self.held("g", some_paths(), "new", MORE + ONE + TWO)
        self.held("w", some_paths(), "new", MORE + [MORE[0]] + TWO)
        self.held("s", some_paths(), "new", MORE + TWO + [MORE[0]])
        self.held("p", some_paths(), "new", [ONE[1], ONE[0]])

    def test_what_was_refused_changes_nothing(self):
        paths, steps = some_paths(), MORE + ONE
        self.held("g", paths, "one", steps)
        self.assertEqual(list(paths.items()), list(some_paths().items()))
        self.assertEqual(steps, MORE + ONE)
        paths["one"] = []
        self.assertEqual(longer(paths, "one", steps), {"two": TWO, "one": MORE + ONE, "none": []})

    def test_what_was_handed_in_is_as_it_was(self):
        for train in ("two", "one", "none", "new"):
            paths, steps = some_paths(), list(MORE)
            longer(paths, train, steps)
            self.assertEqual(list(paths.items()), list(some_paths().items()))
            self.assertEqual(steps, MORE)

    def test_the_lists_told_are_not_those_handed_in(self):
        for train in ("two", "one", "none", "new"):
            for more in ([], MORE):
                paths, steps = some_paths(), list(more)
                told = longer(paths, train, steps)
                wanted = longer(some_paths(), train, list(more))
                for path in list(paths.values()) + [steps]:
                    path.append(("z", "a", "b", ""))
                paths.clear()
                self.assertEqual(told, wanted)
                paths, steps = some_paths(), list(more)
                told = longer(paths, train, steps)
                for path in told.values():
                    path.clear()
                self.assertEqual(paths, some_paths())
                self.assertEqual(steps, more)


class GivenBack(unittest.TestCase):
    def test_length_one(self):
        for word, count in (("ox", 1), ("xo", 0), ("oox", 2), ("oxo", 1), ("xx", 0), ("x", 0), ("o", 0), ("oxx", 1),
                            ("ooxox", 2), ("oooxoo", 3)):
            with self.subTest(word=word):
                self.assertEqual(back(word, 1), count)

    def test_length_two(self):
        for word, count in (("ox", 0), ("oxx", 1), ("oox", 1), ("ooxx", 2), ("ooox", 2), ("oxo", 0), ("oxox", 1),
                            ("xox", 0), ("oooxo", 2)):
            with self.subTest(word=word):
                self.assertEqual(back(word, 2), count)

    def test_length_three(self):
        for word, count in (("oox", 0), ("ooox", 1), ("oxxx", 1), ("ooxxx", 2), ("oxxo", 0), ("oooox", 2),
                            ("oooxxxo", 3), ("oooxxoo", 2)):
            with self.subTest(word=word):
                self.assertEqual(back(word, 3), count)

    def test_length_four(self):
        for word, count in (("ooox", 0), ("oooox", 1), ("oxxxx", 1), ("oxxxo", 0), ("ooxxxx", 2), ("oooooox", 3),
                            ("ooooxxxxo", 4), ("ooooooxoo", 3)):
            with self.subTest(word=word):
                self.assertEqual(back(word, 4), count)

    def test_just_reached_and_just_not(self):
        for length in (1, 2, 3, 4):
            for count in (1, 2, 3):
                with self.subTest(length=length, count=count):
                    self.assertEqual(back("o" * (count + length - 1) + "x", length), count)
                    self.assertEqual(back("o" * (count + length - 1) + "xooo", length), count)
            self.assertEqual(back("o" * (length - 1) + "x", length), 0)

    def test_a_part_that_is_not_told(self):
        self.assertEqual(back("..x", 1), 2)
        self.assertEqual(back(".ox", 2), 1)
        self.assertEqual(back("...", 1), 0)
        self.assertEqual(back("x..", 1), 0)
        self.assertEqual(given_back(plains(3), 1, {"p2": True}), 2)
        self.assertEqual(given_back(plains(3), 1, {}), 0)
        self.assertEqual(given_back(plains(3), 1, {"other": True, "p9": True}), 0)

    def test_a_part_told_taken_ahead_of_one_told_empty(self):
        for length in (1, 2, 3, 4):
            self.assertEqual(back("xooooox", length), 0)
            self.assertEqual(back("oxoooooox", length), 1)
            self.assertEqual(back("ooxooooox", length), 2)

    def test_none_told_taken(self):
        for length in (1, 2, 3, 4):
            for word in ("", "o", "oo", "oooooooo", "........"):
                self.assertEqual(back(word, length), 0)

    def test_all_told_taken(self):
        for length in (1, 2, 3, 4):
            self.assertEqual(back("xxxxxxxx", length), 0)

    def test_an_empty_path(self):
        for length in (1, 2, 3, 4):
            self.assertEqual(given_back([], length, {}), 0)
            self.assertEqual(given_back([], length, {"p0": True}), 0)

    def test_as_many_as_can_and_none_more(self):
        for count in range(7):
            for signs in itertools.product("xo.", repeat=count):
                word = "".join(signs)
                for length in (1, 2, 3, 4, 5):
                    told = back(word, length)
                    goes = [can_go(plains(count), length, seen_as(word), place) for place in range(count)]
                    self.assertEqual(goes, [True] * told + [False] * (count - told), (word, length))
                    self.assertIs(type(told), int)

    def test_none_on_which_it_stands_or_to_which_it_goes(self):
        for count in range(1, 8):
            for length, first, stood in itertools.product((1, 2, 3, 4), range(count), (1, 2, 3, 4)):
                if stood > length or first + stood > count:
                    continue
                truth = ["x" if first <= place < first + stood else "o" for place in range(count)]
                for fault in range(count + 1):
                    word = list(truth)
                    if fault < count:
                        word[fault] = "o" if truth[fault] == "x" else "x"
                    self.assertLessEqual(back("".join(word), length), first)

    def test_the_order_of_the_path_counts_and_the_part_alone(self):
        path = [("z", "", "a", ""), ("b", "left", "stem", "left"), ("a", "a", "", "")]
        self.assertEqual(given_back(path, 1, {"a": True, "b": False, "z": False}), 2)
        self.assertEqual(given_back(path, 1, {"z": True, "a": False}), 0)
        self.assertEqual(given_back(path, 2, {"b": True}), 0)
        self.assertEqual(given_back(path, 2, {"left": True, "stem": True, "": True}), 0)

    def test_nothing_handed_in_is_changed(self):
        path, seen = plains(4), seen_as("o.xo")
        given_back(path, 1, seen)
        self.assertEqual(path, plains(4))
        self.assertEqual(list(seen.items()), list(seen_as("o.xo").items()))


class Shortened(unittest.TestCase):
    def paths(self):
        return {"z": plains(4), "b": [("q", "", "a", ""), ("r", "a", "b", ""), ("s", "a", "", "")], "a": [],
                "c": [("t", "", "a", "")]}

    def test_several_trains_in_their_order(self):
        seen = {"p0": False, "p2": True, "s": True, "t": True}
        told = shortened(self.paths(), {"a": 1, "b": 2, "c": 4, "z": 1}, seen)
        self.assertEqual(list(told.items()), [("z", plains(4)[2:]), ("b", self.paths()["b"][1:]), ("a", []),
                                              ("c", [("t", "", "a", "")])])

    def test_each_by_its_own_length(self):
        paths = {"two": plains(5), "one": [("q" + str(k), "a", "b", "") for k in range(5)]}
        seen = {"p3": True, "q3": True}
        told = shortened(paths, {"one": 1, "two": 3}, seen)
        self.assertEqual([(train, parts_of(path)) for train, path in told.items()],
                         [("two", ["p1", "p2", "p3", "p4"]), ("one", ["q3", "q4"])])

    def test_taken_on_anothers_path_counts_for_nothing(self):
        paths = {"one": plains(3), "two": [("q", "a", "b", "")]}
        self.assertEqual(shortened(paths, {"one": 1, "two": 1}, {"q": True}), paths)

    def test_nothing_goes(self):
        for seen in ({}, {"p0": True, "q": True, "t": True}):
            told = shortened(self.paths(), {"a": 1, "b": 1, "c": 1, "z": 1}, seen)
            self.assertEqual(list(told.items()), list(self.paths().items()))

    def test_an_empty_path_stays(self):
        self.assertEqual(shortened({"a": [], "b": []}, {"a": 1, "b": 4}, {"p": True}), {"a": [], "b": []})
        self.assertEqual(shortened({}, {}, {"p": True}), {})
        self.assertEqual(shortened({}, {"a": 1}, {}), {})

    def test_each_as_it_is_told_to_go(self):
        chance = random.Random(9)
        for k in range(200):
            paths, lengths, seen = {}, {}, {}
            for train in chance.sample(["d", "a", "c", "b"], chance.randint(0, 4)):
                paths[train] = [(train + str(k), "a", "b", "") for k in range(chance.randint(0, 6))]
                lengths[train] = chance.randint(1, 4)
                for step in paths[train]:
                    seen[step[0]] = chance.random() < 0.4
            told = shortened(paths, lengths, seen)
            self.assertEqual(list(told), list(paths))
            for train, path in paths.items():
                self.assertEqual(told[train], path[given_back(path, lengths[train], seen):])

    def test_what_was_handed_in_is_as_it_was(self):
        paths, lengths, seen = self.paths(), {"a": 1, "b": 2, "c": 4, "z": 1}, {"p2": True, "s": True}
        told = shortened(paths, lengths, seen)
        self.assertEqual(list(paths.items()), list(self.paths().items()))
        self.assertEqual(lengths, {"a": 1, "b": 2, "c": 4, "z": 1})
        self.assertEqual(seen, {"p2": True, "s": True})
        for path in told.values():
            path.append(("new", "a", "b", ""))
        self.assertEqual(paths, self.paths())

    def test_what_is_told_does_not_hang_on_what_was_handed_in(self):
        paths, lengths, seen = self.paths(), {"a": 1, "b": 2, "c": 4, "z": 1}, {}
        told = shortened(paths, lengths, seen)
        for path in paths.values():
            path.clear()
        paths.clear()
        self.assertEqual(list(told.items()), list(self.paths().items()))
        self.assertEqual([type(told)] + [type(path) for path in told.values()], [dict, list, list, list, list])


class TurnedPath(unittest.TestCase):
    def test_no_steps_and_one(self):
        self.assertEqual(turned_path([]), [])
        self.assertEqual(turned_path([("g", "", "a", "")]), [("g", "a", "", "")])
        self.assertEqual(turned_path([("p", "a", "b", "")]), [("p", "b", "a", "")])

    def test_several(self):
        self.assertEqual(turned_path(ONE + MORE), [("q", "b", "a", ""), ("x", "d", "c", ""),
                                                   ("w", "right", "stem", "right"), ("p", "b", "a", ""),
                                                   ("g", "a", "", "")])

    def test_twice(self):
        for path in ([], ONE, TWO, MORE, ONE + MORE):
            self.assertEqual(turned_path(turned_path(path)), path)

    def test_the_list_handed_in_is_as_it_was(self):
        for path in ([], ONE, ONE + MORE):
            handed = list(path)
            turned_path(handed).append(("new", "a", "b", ""))
            self.assertEqual(handed, path)
            told = turned_path(handed)
            handed.append(("new", "a", "b", ""))
            self.assertEqual(told, turned_path(path))
            self.assertIs(type(told), list)


class JoinsOn(unittest.TestCase):
    def on(self, path, tracks=None):
        self.assertIs(joins_on(small_yard() if tracks is None else tracks, path), True, path)

    def not_on(self, path, tracks=None):
        self.assertIs(joins_on(small_yard() if tracks is None else tracks, path), False, path)

    def test_no_steps(self):
        self.on([])
        self.on([], Tracks([], []))

    def test_good_paths(self):
        whole = ONE + MORE + [("r", "a", "b", ""), ("t", "a", "", "")]
        for first in range(len(whole)):
            for last in range(first, len(whole)):
                self.on(whole[first:last + 1])
                self.on(turned_path(whole[first:last + 1]))
        self.on([("s", "", "a", ""), ("x", "b", "a", ""), ("w", "left", "stem", "left"), ("p", "b", "a", "")])

    def test_every_route_joins_on_and_turned_too(self):
        chance = random.Random(8)
        for tracks in some_yards() + [drawn_yard(chance) for k in range(60)]:
            for signal, part, end in tracks.signals():
                for route in routes_from(tracks, signal):
                    self.on(list(route[1:]), tracks)
                    self.on(turned_path(list(route[1:])), tracks)

    def test_a_part_that_comes_twice_is_not_looked_at(self):
        self.on([("g", "", "a", ""), ("x", "a", "b", ""), ("l", "a", "b", ""), ("x", "c", "d", ""),
                 ("s", "a", "", "")], eight(None))
        self.on([("w", "stem", "left", "left"), ("l", "a", "b", ""), ("w", "right", "stem", "right")], loop(None))

    def test_longer_than_any_route(self):
        self.on([("g", "", "a", "")] + list(line_steps(30)), line(30, None))

    def test_a_step_that_does_not_join(self):
        whole = ONE + MORE + [("r", "a", "b", ""), ("t", "a", "", "")]
        for place in range(1, len(whole) - 1):
            self.not_on(whole[:place] + whole[place + 1:])
        for place in range(len(whole)):
            self.not_on(whole[:place + 1] + whole[place:])
        self.not_on(list(reversed(whole)))
        self.not_on([("p", "a", "b", ""), ("p", "b", "a", "")])
        self.not_on([("q", "a", "b", ""), ("r", "b", "a", "")])
        self.not_on([("p", "b", "a", ""), ("w", "stem", "left", "left")])
        self.not_on(ONE + [("w", "left", "stem", "left")])

    def test_a_step_that_is_none_of_those_into_its_end(self):
        for step in [("p", "a", "a", ""), ("p", "a", "", ""), ("p", "a", "c", ""), ("p", "c", "a", ""),
                     ("x", "a", "c", ""), ("x", "a", "d", ""), ("w", "left", "right", "left"),
                     ("w", "stem", "stem", "left"), ("s", "a", "a", ""), ("nosuch", "a", "b", ""), ("", "", "", ""),
                     ("", "", "a", ""), ("", "a", "", "")]:
            with self.subTest(step=step):
                self.not_on([step])
        self.not_on([ONE[0], ("p", "a", "a", "")])
        self.not_on([ONE[0], ("p", "a", "", "")])
        self.not_on(ONE + MORE[:1] + [("x", "c", "b", "")])
        self.not_on([("p", "a", "a", ""), ("g", "a", "", "")])

    def test_a_wrong_lie(self):
        for step in [("p", "a", "b", "left"), ("s", "a", "", "left"), ("s", "", "a", "left"), ("x", "a", "b", "right"),
                     ("w", "stem", "left", ""), ("w", "stem", "left", "right"), ("w", "left", "stem", "right"),
                     ("w", "right", "stem", "left"), ("w", "stem", "right", "left"), ("w", "stem", "", "left")]:
            with self.subTest(step=step):
                self.not_on([step])
        self.not_on(ONE + [("w", "stem", "left", "right")])
        self.not_on(ONE + [("w", "stem", "left", "right"), ("x", "a", "b", "")])

    def test_the_way_out_first(self):
        for name in ("g", "s", "t"):
            self.on([(name, "", "a", "")])
        self.on(ONE)
        self.on([("t", "", "a", ""), ("r", "b", "a", "")])

    def test_the_way_out_of_other_parts(self):
        for step in [("p", "", "a", ""), ("p", "", "b", ""), ("r", "", "a", ""), ("x", "", "a", ""),
                     ("w", "", "stem", "left"), ("w", "", "stem", ""), ("nosuch", "", "a", ""), ("s", "", "", ""),
                     ("s", "", "b", ""), ("g", "", "", ""), ("w", "", "", "left")]:
            with self.subTest(step=step):
                self.not_on([step])

    def test_the_way_out_amid(self):
        self.not_on([("p", "b", "a", ""), ("g", "", "a", ""), ("p", "a", "b", "")])
        self.not_on([("p", "b", "a", ""), ("g", "", "a", "")])
        self.not_on([("p", "b", "a", ""), ("g", "a", "", ""), ("g", "", "a", ""), ("p", "a", "b", "")])
        self.not_on([("g", "a", "", ""), ("g", "", "a", "")])
        self.not_on([("s", "a", "", ""), ("s", "", "a", "")])
        self.not_on([("r", "a", "b", ""), ("t", "", "a", "")])
        self.not_on([("s", "", "a", ""), ("s", "", "a", "")])
        self.not_on([("g", "", "a", ""), ("s", "", "a", "")], line(0, None))
        self.on([("g", "", "a", ""), ("s", "a", "", "")], line(0, None))

    def test_on_behind_the_way_in(self):
        self.not_on([("g", "a", "", ""), ("p", "a", "b", "")])
        self.not_on([("s", "a", "", ""), ("", "", "", "")])

    def test_each_step_is_looked_at(self):
        whole = ONE + MORE + [("r", "a", "b", ""), ("t", "a", "", "")]
        for place in range(len(whole)):
            part, entry, way_out, lie = whole[place]
            for wrong in ((part, entry, way_out, "up"), (part, entry, "z", lie), (part, "z", way_out, lie),
                          ("z", entry, way_out, lie), (part, way_out, entry, lie)):
                self.not_on(whole[:place] + [wrong] + whole[place + 1:])

    def test_the_path_is_as_it_was(self):
        path = ONE + MORE
        joins_on(small_yard(), path)
        self.assertEqual(path, ONE + MORE)
