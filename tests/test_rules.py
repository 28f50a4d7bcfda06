"""Grounds and rules (points 10 and 11)."""

import inspect
import itertools
import random
import unittest

from tests.helper import diamonds, drawn_yard, line, some_yards
from yardkeep.grounds import Ground
from yardkeep.routes import routes_from
from yardkeep.rules import against, against_points, laid, rules_of

PLAIN = ("in", ("p0", "a", "b", ""), ("p1", "a", "b", ""), ("s", "a", "", ""))
ONE = ("sp", ("w", "stem", "left", "left"), ("x", "a", "b", ""), ("s", "a", "", ""))
TWO = ("in", ("w0", "stem", "right", "right"), ("w1", "right", "stem", "right"), ("s", "a", "", ""))


def free():
    """A ground on which nothing stands against anything."""
    return Ground({}, {}, {}, {})


def full(route):
    """A ground on which all stands against a route that can."""
    parts = [step[0] for step in route[1:]]
    other = {"left": "right", "right": "left"}
    return Ground(dict([(step[0], other[step[3]]) for step in route[1:] if step[3] != ""]),
                  dict([(part, True) for part in parts]),
                  {"none": [], "one": [(part, "a", "b", "") for part in parts]},
                  dict([(part, True) for part in parts]))


def full_words(route):
    """What the rules of a route tell on its full ground."""
    told = []
    for step in route[1:]:
        told += [("held", step[0]), ("taken", step[0])] + ([("stiff", step[0])] if step[3] else [])
    return told


def asked(route, ground):
    return [rule(ground) for rule in rules_of(route)]


def told_by_the_words(route, ground):
    """Points 10 and 11, word by word: what each rule of a route tells."""
    told = []
    for part, entry, leave, lie in route[1:]:
        held = part in [step[0] for path in ground.path_of.values() for step in path]
        told.append(("held", part) if held else None)
        told.append(("taken", part) if part in ground.told and ground.told[part] else None)
        if lie in ("left", "right"):
            must_turn = ground.lie_of[part] != lie
            told.append(("stiff", part) if must_turn and part in ground.stiff_ones else None)
    return told


def drawn_ground(chance, tracks):
    names = tracks.names()
    points = [name for name in names if len(tracks.named(name).lies()) == 2]
    rate = chance.choice([0.05, 0.3, 0.7])
    some = [name for name in names if chance.random() < rate]
    cut = chance.randint(0, len(some))
    steps = [(part, "", "", "") for part in some]
    paths = {"b": steps[:cut], "c": [], "a": steps[cut:]}
    return Ground(dict([(name, chance.choice(["left", "right"])) for name in points]),
                  dict([(name, True) for name in points if chance.random() < rate]), paths,
                  dict([(name, chance.random() < rate) for name in names if chance.random() < 0.8]))


def copy_of(ground):
    return [dict(ground.lie_of), dict(ground.stiff_ones),
            [(train, list(path)) for train, path in ground.path_of.items()], dict(ground.told)]


class Grounds(unittest.TestCase):
    def test_its_fields_are_what_was_handed_in(self):
        lies, stiff, paths, told = {"w": "left"}, {"w": True}, {"one": [ONE[1]]}, {"w": True}
        ground = Ground(lies, stiff, paths, told)
        self.assertIs(ground.lie_of, lies)
        self.assertIs(ground.stiff_ones, stiff)
        self.assertIs(ground.path_of, paths)
        self.assertIs(ground.told, told)

    def test_by_their_names(self):
        ground = Ground(told={"t": True}, path_of={"p": []}, stiff_ones={"s": True}, lie_of={"l": "left"})
        self.assertEqual((ground.lie_of, ground.stiff_ones, ground.path_of, ground.told),
                         ({"l": "left"}, {"s": True}, {"p": []}, {"t": True}))

    def test_two_grounds_have_nothing_in_common(self):
        one, two = Ground({}, {}, {}, {}), Ground({}, {}, {}, {})
        one.told["w"] = True
        one.lie_of = {"w": "left"}
        self.assertEqual((two.told, two.lie_of), ({}, {}))

    def test_fields_that_are_given_others(self):
        ground, rules = free(), rules_of(ONE)
        self.assertIsNone(against(rules, ground))
        ground.path_of = {"one": [("x", "a", "b", "")]}
        self.assertEqual(against(rules, ground), ("held", "x"))
        ground.told = {"w": True}
        self.assertEqual(against(rules, ground), ("taken", "w"))
        self.assertEqual(against_points("w", ground), ("taken", "w"))
        ground.told, ground.stiff_ones, ground.lie_of = {}, {"w": True}, {"w": "right"}
        self.assertEqual(against(rules, ground), ("stiff", "w"))
        self.assertEqual(against_points("w", ground), ("stiff", "w"))
        ground.lie_of = {"w": "left"}
        self.assertEqual(against(rules, ground), ("held", "x"))
        ground.path_of, ground.stiff_ones = {}, {}
        self.assertIsNone(against(rules, ground))
        self.assertIsNone(against_points("w", ground))

    def test_fields_that_are_changed(self):
        lies, stiff, paths, told = {"w": "right"}, {}, {}, {}
        ground, rules = Ground(lies, stiff, paths, told), rules_of(ONE)
        self.assertIsNone(against(rules, ground))
        stiff["w"] = True
        self.assertEqual(against(rules, ground), ("stiff", "w"))
        lies["w"] = "left"
        self.assertIsNone(against(rules, ground))
        told["s"] = True
        self.assertEqual(against(rules, ground), ("taken", "s"))
        told["s"] = False
        self.assertIsNone(against(rules, ground))
        paths["one"] = []
        self.assertIsNone(against(rules, ground))
        paths["one"].append(("w", "stem", "left", "left"))
        self.assertEqual(against(rules, ground), ("held", "w"))
        self.assertEqual(against_points("w", ground), ("held", "w"))
        paths["one"].pop()
        self.assertEqual(against_points("w", ground), ("stiff", "w"))
        stiff.clear()
        self.assertIsNone(against_points("w", ground))

    def test_arguments(self):
        self.assertEqual(str(inspect.signature(Ground)), "(lie_of, stiff_ones, path_of, told)")
        for function, told in ((rules_of, "(route)"), (against, "(rules, ground)"),
                               (against_points, "(points, ground)"), (laid, "(lies, route)")):
            self.assertEqual(str(inspect.signature(function)), told)


class RulesOfARoute(unittest.TestCase):
    def test_how_many(self):
        for route, count in ((PLAIN, 6), (ONE, 7), (TWO, 8), (("in", ("s", "a", "", "")), 2),
                             (("in", ("w", "stem", "left", "left")), 3), (("in",), 0)):
            with self.subTest(route=route):
                self.assertIs(type(rules_of(route)), list)
                self.assertEqual(len(rules_of(route)), count)

    def test_in_which_order(self):
        self.assertEqual(asked(PLAIN, full(PLAIN)), [("held", "p0"), ("taken", "p0"), ("held", "p1"), ("taken", "p1"),
                                                     ("held", "s"), ("taken", "s")])
        self.assertEqual(asked(ONE, full(ONE)), [("held", "w"), ("taken", "w"), ("stiff", "w"), ("held", "x"),
                                                 ("taken", "x"), ("held", "s"), ("taken", "s")])
        self.assertEqual(asked(TWO, full(TWO)), [("held", "w0"), ("taken", "w0"), ("stiff", "w0"), ("held", "w1"),
                                                 ("taken", "w1"), ("stiff", "w1"), ("held", "s"), ("taken", "s")])

    def test_none_where_nothing_stands_against_it(self):
        for route in (PLAIN, ONE, TWO):
            self.assertEqual(asked(route, free()), [None] * len(rules_of(route)))

    def test_each_tells_its_own_alone(self):
        rules = rules_of(TWO)
        lies = {"w0": "left", "w1": "left"}
        for place, ground in ((0, Ground({}, {}, {"t": [TWO[1]]}, {})), (1, Ground({}, {}, {}, {"w0": True})),
                              (2, Ground(lies, {"w0": True}, {}, {})), (3, Ground({}, {}, {"t": [TWO[2]]}, {})),
                              (4, Ground({}, {}, {}, {"w1": True})), (5, Ground(lies, {"w1": True}, {}, {})),
                              (6, Ground({}, {}, {"t": [TWO[3]]}, {})), (7, Ground({}, {}, {}, {"s": True}))):
            with self.subTest(place=place):
                told = [rule(ground) for rule in rules]
                self.assertEqual([k for k, one in enumerate(told) if one is not None], [place])
                self.assertEqual(told[place], full_words(TWO)[place])
                self.assertIs(type(told[place]), tuple)

    def test_held_by_whichever_train(self):
        steps = [("p0", "a", "b", ""), ("p1", "b", "a", "")]
        for paths in ({"one": steps}, {"a": [], "b": steps}, {"b": steps, "a": []}, {"a": steps[:1], "b": steps[1:]},
                      {"a": steps[1:], "b": [], "c": steps[:1]}):
            self.assertEqual(asked(PLAIN, Ground({}, {}, paths, {})),
                             [("held", "p0"), None, ("held", "p1"), None, None, None])

    def test_the_part_alone_is_held(self):
        paths = {"s": [("q", "p0", "p1", "s")], "p0": [], "p1": [("r", "s", "", "")]}
        self.assertEqual(asked(PLAIN, Ground({}, {}, paths, {})), [None] * 6)

    def test_told_empty_or_not_told(self):
        self.assertEqual(asked(PLAIN, Ground({}, {}, {}, {"p0": False, "q": True, "s": True})),
                         [None, None, None, None, None, ("taken", "s")])

    def test_stiff_points_that_lie_so(self):
        self.assertEqual(asked(ONE, Ground({"w": "left"}, {"w": True}, {}, {})), [None] * 7)
        self.assertEqual(asked(ONE, Ground({"w": "right"}, {"w": True}, {}, {}))[2], ("stiff", "w"))
        self.assertEqual(asked(ONE, Ground({"w": "right"}, {}, {}, {})), [None] * 7)
        self.assertEqual(asked(ONE, Ground({"w": "right"}, {"w0": True, "x": True, "s": True}, {}, {})), [None] * 7)

    def test_each_lie(self):
        for lie, lies, stiff in itertools.product(["left", "right"], ["left", "right"], [False, True]):
            route = ("in", ("w", "stem", lie, lie), ("s", "a", "", ""))
            ground = Ground({"w": lies}, {"w": True} if stiff else {}, {}, {})
            with self.subTest(lie=lie, lies=lies, stiff=stiff):
                self.assertEqual(asked(route, ground)[2], ("stiff", "w") if stiff and lie != lies else None)

    def test_of_another_ground_and_of_the_first_again(self):
        rules, one, two = rules_of(ONE), full(ONE), Ground({"w": "left"}, {"w": True}, {}, {"x": True})
        first = [rule(one) for rule in rules]
        self.assertEqual([rule(two) for rule in rules], [None, None, None, None, ("taken", "x"), None, None])
        self.assertEqual([rule(free()) for rule in rules], [None] * 7)
        self.assertEqual([rule(one) for rule in rules], first)
        self.assertEqual(first, full_words(ONE))

    def test_one_behind_the_other_of_several_routes(self):
        made = [(route, rules_of(route)) for route in (PLAIN, ONE, TWO)]
        for route, rules in reversed(made):
            self.assertEqual([rule(full(route)) for rule in rules], full_words(route))

    def test_the_list_is_the_askers_own(self):
        first = rules_of(ONE)
        first.clear()
        self.assertEqual(len(rules_of(ONE)), 7)
        rules = rules_of(ONE)
        rules_of(ONE).append(None)
        rules_of(TWO)
        self.assertEqual([rule(full(ONE)) for rule in rules], full_words(ONE))

    def test_how_steps_join_isnt_looked_at(self):
        route = ("nosuch", ("b", "d", "b", ""), ("a", "x", "y", "right"), ("c", "left", "right", ""))
        self.assertEqual(asked(route, full(route)), [("held", "b"), ("taken", "b"), ("held", "a"), ("taken", "a"),
                                                     ("stiff", "a"), ("held", "c"), ("taken", "c")])
        twice = ("in", ONE[1], ("w", "stem", "right", "right"))
        self.assertEqual(asked(twice, Ground({"w": "left"}, {"w": True}, {}, {})),
                         [None, None, None, None, None, ("stiff", "w")])

    def test_the_signals_name_is_no_part(self):
        route = ("p", ("s", "a", "", ""))
        self.assertEqual(asked(route, Ground({}, {}, {"t": [("p", "a", "b", "")]}, {"p": True})), [None, None])

    def test_a_long_route(self):
        route = routes_from(line(11, [("in", "g", "a")]), "in")[0]
        self.assertEqual(len(rules_of(route)), 24)
        self.assertEqual(asked(route, full(route)), full_words(route))

    def test_nothing_handed_in_is_changed(self):
        for route in (PLAIN, ONE, TWO):
            ground = full(route)
            ahead = copy_of(ground)
            rules = rules_of(route)
            count = len(rules)
            asked(route, ground)
            against(rules, ground)
            against(rules, free())
            against_points("w", ground)
            self.assertEqual(copy_of(ground), ahead)
            self.assertEqual(len(rules), count)

    def test_what_was_told_stays(self):
        ground, rules = full(ONE), rules_of(ONE)
        told = [rule(ground) for rule in rules]
        ground.told.clear()
        ground.path_of.clear()
        ground.stiff_ones.clear()
        self.assertEqual(told, full_words(ONE))


class Against(unittest.TestCase):
    def test_nothing(self):
        for route in (PLAIN, ONE, TWO):
            self.assertIsNone(against(rules_of(route), free()))

    def test_no_rules(self):
        self.assertIsNone(against([], free()))
        self.assertIsNone(against([], full(TWO)))

    def test_held_ahead_of_taken_ahead_of_stiff(self):
        ground, rules = full(ONE), rules_of(ONE)
        self.assertEqual(against(rules, ground), ("held", "w"))
        ground.path_of = {}
        self.assertEqual(against(rules, ground), ("taken", "w"))
        ground.told = {}
        self.assertEqual(against(rules, ground), ("stiff", "w"))
        ground.lie_of = {"w": "left"}
        self.assertIsNone(against(rules, ground))

    def test_step_by_step(self):
        rules = rules_of(ONE)
        lies, stiff = {"w": "right"}, {"w": True}
        self.assertEqual(against(rules, Ground(lies, stiff, {"t": [ONE[2]]}, {"x": True})), ("stiff", "w"))
        self.assertEqual(against(rules, Ground({}, {}, {"t": [ONE[3]]}, {"x": True})), ("taken", "x"))
        self.assertEqual(against(rules, Ground({}, {}, {"t": [ONE[2]]}, {"w": True})), ("taken", "w"))
        self.assertEqual(against(rules, Ground({}, {}, {"t": [ONE[3]]}, {})), ("held", "s"))
        lies = {"w0": "right", "w1": "left"}
        self.assertEqual(against(rules_of(TWO), Ground(lies, {"w0": True, "w1": True}, {}, {"s": True})),
                         ("stiff", "w1"))

    def test_what_a_part_off_the_route_is_counts_for_nothing(self):
        ground = Ground({"v": "right"}, {"v": True}, {"t": [("v", "stem", "left", "left")]}, {"v": True, "in": True})
        for route in (PLAIN, ONE, TWO):
            self.assertIsNone(against(rules_of(route), ground))

    def test_any_functions_of_a_ground(self):
        ground = free()
        calls = []

        def noted(told):
            return lambda asked_of: calls.append(asked_of) or told

        self.assertEqual(against([noted(None), noted(("held", "a")), noted(("taken", "b"))], ground), ("held", "a"))
        self.assertEqual(len([one for one in calls if one is ground]), len(calls))
        self.assertIsNone(against([noted(None), noted(None)], ground))

    def test_every_ground_of_two_steps(self):
        route = ("in", ("w", "stem", "left", "left"), ("s", "a", "", ""))
        rules = rules_of(route)
        for marks in itertools.product([False, True], repeat=6):
            held_w, taken_w, stiff, other, held_s, taken_s = marks
            path = [step for step, held in zip(route[1:], (held_w, held_s)) if held]
            ground = Ground({"w": "right" if other else "left"}, {"w": True} if stiff else {}, {"t": path},
                            {"w": taken_w, "s": taken_s})
            told = [word for word, so in ((("held", "w"), held_w), (("taken", "w"), taken_w),
                                          (("stiff", "w"), stiff and other), (("held", "s"), held_s),
                                          (("taken", "s"), taken_s)) if so]
            with self.subTest(marks=marks):
                self.assertEqual(against(rules, ground), told[0] if told else None)

    def test_as_the_words_say_in_many_yards(self):
        chance = random.Random(10)
        count = 0
        for tracks in some_yards() + [drawn_yard(chance) for k in range(60)]:
            grounds = [drawn_ground(chance, tracks) for k in range(4)]
            for signal in [row[0] for row in tracks.signals()]:
                for route in routes_from(tracks, signal)[:10]:
                    rules = rules_of(route)
                    for ground in grounds:
                        told = told_by_the_words(route, ground)
                        self.assertEqual([rule(ground) for rule in rules], told)
                        self.assertEqual(against(rules, ground), ([one for one in told if one] + [None])[0])
                        count += 1
        self.assertGreater(count, 500)


class AgainstPoints(unittest.TestCase):
    def test_in_this_order_and_however_they_lie(self):
        for held, taken, stiff, lies in itertools.product([False, True], [False, True], [False, True],
                                                          [{}, {"w": "left"}, {"w": "right"}]):
            ground = Ground(lies, {"w": True} if stiff else {}, {"t": [ONE[1]] if held else []}, {"w": taken})
            words = [word for word, so in (("held", held), ("taken", taken), ("stiff", stiff)) if so]
            with self.subTest(words=words, lies=lies):
                self.assertEqual(against_points("w", ground), (words[0], "w") if words else None)

    def test_a_part_that_isnt_told(self):
        self.assertIsNone(against_points("w", free()))
        self.assertIsNone(against_points("w", Ground({"w": "left"}, {}, {}, {"v": True})))
        self.assertEqual(against_points("w", Ground({"w": "left"}, {"w": True}, {}, {"v": True})), ("stiff", "w"))

    def test_others_count_for_nothing(self):
        ground = full(TWO)
        self.assertIsNone(against_points("v", ground))
        self.assertEqual(against_points("w1", ground), ("held", "w1"))
        self.assertIs(type(against_points("w1", ground)), tuple)


class Laid(unittest.TestCase):
    def lies(self):
        return {"w1": "left", "v": "right", "w0": "left", "w": "right"}

    def test_as_the_route_needs_and_all_others_as_they_did(self):
        self.assertEqual(laid(self.lies(), TWO), {"w1": "right", "v": "right", "w0": "right", "w": "right"})
        self.assertEqual(laid(self.lies(), ONE), {"w1": "left", "v": "right", "w0": "left", "w": "left"})

    def test_in_their_order(self):
        for route in (PLAIN, ONE, TWO):
            self.assertEqual(list(laid(self.lies(), route)), ["w1", "v", "w0", "w"])
        twice = ("in", ("w", "left", "stem", "left"), ("v", "stem", "left", "left"), ("w", "stem", "right", "right"))
        self.assertEqual(laid({"v": "right", "w": "right"}, twice), {"v": "left", "w": "right"})
        self.assertEqual(laid({"v": "right", "w": "right"}, twice[:3]), {"v": "left", "w": "left"})

    def test_no_points(self):
        self.assertEqual(laid(self.lies(), PLAIN), self.lies())
        self.assertEqual(laid({}, PLAIN), {})

    def test_that_lie_so_already(self):
        self.assertEqual(laid({"w0": "right", "w1": "right"}, TWO), {"w0": "right", "w1": "right"})

    def test_the_same_again(self):
        for route in (PLAIN, ONE, TWO):
            once = laid(self.lies(), route)
            self.assertEqual(laid(once, route), once)
            self.assertEqual(laid(self.lies(), route), once)

    def test_what_was_handed_in_stays(self):
        for route in (PLAIN, ONE, TWO):
            lies = self.lies()
            told = laid(lies, route)
            self.assertEqual(list(lies.items()), list(self.lies().items()))
            told.clear()
            self.assertEqual(lies, self.lies())

    def test_what_was_told_is_the_askers_own(self):
        lies = self.lies()
        one, two = laid(lies, PLAIN), laid(lies, TWO)
        lies.clear()
        one["v"] = "left"
        self.assertEqual(one, dict(self.lies(), v="left"))
        self.assertEqual(two, {"w1": "right", "v": "right", "w0": "right", "w": "right"})

    def test_nothing_stiff_stands_against_the_route_then(self):
        tracks = diamonds(3, [("in", "g", "a"), ("out", "s", "a")])
        points = [name for name in tracks.names() if name.startswith("w")]
        for route in routes_from(tracks, "in") + routes_from(tracks, "out"):
            for lie in ("left", "right"):
                lies = dict([(name, lie) for name in points])
                stiff = dict([(name, True) for name in points])
                told = laid(lies, route)
                self.assertEqual(told, dict([(step[0], step[3]) for step in route[1:] if step[0] in points]))
                self.assertIsNone(against(rules_of(route), Ground(told, stiff, {}, {})))
