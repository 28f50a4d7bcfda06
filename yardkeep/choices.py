"""Choices: the ways that a train has to a goal, and what stands against them."""

from yardkeep.grounds import Ground
from yardkeep.routes import goal_of, routes_from
from yardkeep.rules import against, rules_of
from yardkeep.ways import end_behind


def next_ways(yard, train, goal):
    signal = yard.tracks.signal_at(end_behind(yard.path(train)[-1]))
    if signal == "":
        return []
    return [route for route in routes_from(yard.tracks, signal) if goal_of(route) == goal]


def against_all(yard, routes):
    stiff_ones = dict([(points, True) for points in yard.stiff()])
    ground = Ground(yard.lies(), stiff_ones, yard.paths(), yard.seen())
    return [against(rules_of(route), ground) for route in routes]
