"""The keeper: lets trains in, sets ways and turns points, by its paths and by what eyes tell it."""

from yardkeep.checks import refuse_gate, refuse_length, refuse_lie, refuse_points
from yardkeep.errors import BadEnd, BadWay, Held, NoTrain, NoTurn, Seen, Stiff
from yardkeep.grounds import Ground
from yardkeep.paths import longer, parts_of, shortened, turned_path
from yardkeep.routes import is_route
from yardkeep.rules import against, against_points, laid, rule_held, rule_taken, rules_of
from yardkeep.tracks import lies_at_first, refuse_name
from yardkeep.ways import backward, end_behind, ends_there


def refuse_against(told):
    if told is None:
        return
    if told[0] == "held":
        raise Held(told[1])
    if told[0] == "taken":
        raise Seen(told[1])
    raise Stiff(told[1])


def dropped(ahead, behind):
    """The sorted parts of the steps that went from the beginnings of paths."""
    parts = []
    for train, path in ahead.items():
        parts.extend(parts_of(path[:len(path) - len(behind[train])]))
    return sorted(parts)


class Keeper:
    def __init__(self, tracks):
        self.tracks = tracks
        self.lie_of = lies_at_first(tracks)
        self.stiff_ones = {}
        self.length_of = {}
        self.path_of = {}

    def refuse_no_train(self, train):
        if train not in self.trains():
            raise NoTrain("there is no train of this name")

    def ground(self, seen):
        return Ground(self.lie_of, self.stiff_ones, self.path_of, seen)

    def come(self, train, length, gate, seen):
        refuse_name(train, self.path_of)
        refuse_gate(self.tracks, gate)
        if self.tracks.signal_at((gate, "a")) == "":
            # Without a signal the train would go out of the gate, and off its path, by itself.
            raise BadEnd("no signal stands at this gate's end")
        refuse_length(length)
        refuse_against(against([rule_held(gate), rule_taken(gate)], self.ground(seen)))
        self.path_of = longer(self.path_of, train, [(gate, "", "a", "")])
        self.length_of[train] = length

    def set_way(self, train, route, seen):
        path = self.path(train)
        if not is_route(self.tracks, route):
            raise BadWay("this is no route")
        if self.tracks.end_of(route[0]) != end_behind(path[-1]):
            raise BadWay("this route's signal doesn't stand at the end of the train's path")
        refuse_against(against(rules_of(route), self.ground(seen)))
        self.path_of = longer(self.path_of, train, route[1:])
        self.lie_of = laid(self.lie_of, route)

    def turn(self, points, lie, seen):
        refuse_lie(self.tracks, points, lie)
        refuse_against(against_points(points, self.ground(seen)))
        self.lie_of[points] = lie

    def stiffen(self, points):
        refuse_points(self.tracks, points)
        self.stiff_ones[points] = True

    def loosen(self, points):
        refuse_points(self.tracks, points)
        self.stiff_ones.pop(points, None)

    def look(self, seen):
        ahead = self.path_of
        self.path_of = shortened(ahead, self.length_of, seen)
        return dropped(ahead, self.path_of)

    def about(self, train):
        path = self.path(train)
        if not ends_there(self.tracks, backward(path[0])):
            # The path would end where no signal holds the train up.
            raise NoTurn("this train's path begins amid the track")
        self.path_of[train] = turned_path(path)

    def leave(self, train):
        self.refuse_no_train(train)
        self.path_of.pop(train)
        self.length_of.pop(train)

    def shows(self, signal):
        end = self.tracks.end_of(signal)
        for path in self.path_of.values():
            if end in [end_behind(step) for step in path[:-1]]:
                return True
        return False

    def path(self, train):
        self.refuse_no_train(train)
        return list(self.path_of[train])

    def paths(self):
        return dict([(train, self.path(train)) for train in self.trains()])

    def lies(self):
        return dict(self.lie_of)

    def stiff(self):
        return sorted(self.stiff_ones)

    def length(self, train):
        self.refuse_no_train(train)
        return self.length_of[train]

    def trains(self):
        return sorted(self.path_of)
