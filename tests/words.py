"""Points of the document word by word: models to which the program is held, told of tracks and routes alone."""

import re

from yardkeep.parts import Cross, Gate, Points, Stop
from yardkeep.routes import routes_from


def named_of(tracks, kind):
    return [name for name in tracks.names() if isinstance(tracks.named(name), kind)]


def led(tracks, lies, spot):
    """Point 4, kind by kind."""
    part, end = spot
    kind = tracks.named(part)
    if isinstance(kind, Points):
        return {"stem": lies[part], lies[part]: "stem"}.get(end, "")
    if isinstance(kind, Cross):
        return {"a": "b", "b": "a", "c": "d", "d": "c"}.get(end, "")
    if isinstance(kind, Stop):
        return {"": "a"}.get(end, "")
    return {"a": "b", "b": "a"}.get(end, "")


class WorldWords:
    """Points 12 to 14, word by word."""
    def __init__(self, tracks):
        self.tracks = tracks
        self.lies = dict([(name, "left") for name in named_of(tracks, Points)])
        self.long, self.spots, self.bad = {}, {}, []

    def stands(self, part):
        return [name for name in self.spots if part in [spot[0] for spot in self.spots[name]]]

    def come(self, name, long, gate):
        if self.stands(gate):
            self.bad.append(("crash", gate))
        else:
            self.long[name], self.spots[name] = long, [(gate, "")]

    def go(self, name, passed):
        head = self.spots[name][-1]
        out = led(self.tracks, self.lies, head)
        if out == "":
            return "end"
        if self.tracks.signal_at((head[0], out)) != "" and not passed:
            return "stop"
        there = self.tracks.beyond((head[0], out))
        word = "went"
        if self.stands(there[0]):
            word = "crash"
        elif led(self.tracks, self.lies, there) == "" and not isinstance(self.tracks.named(there[0]), Stop):
            word = "off"
        if word != "went":
            self.bad.append((word, there[0]))
            return word
        self.spots[name].append(there)
        if len(self.spots[name]) > self.long[name]:
            self.spots[name].pop(0)
        return word

    def about(self, name):
        self.spots[name] = [(part, led(self.tracks, self.lies, (part, end))) for part, end in self.spots[name]][::-1]

    def turn(self, points, lie):
        if self.lies[points] != lie and self.stands(points):
            self.bad.append(("split", points))
        self.lies[points] = lie

    def told(self):
        names = sorted(self.spots)
        return (names, [self.spots[name] for name in names], sorted(self.lies.items()),
                [(part, self.stands(part) != []) for part in self.tracks.names()], self.bad)


class KeeperWords:
    """Points 9, 11 and 15 to 17, and what the keeper's section says, word by word: what comes of each asking."""
    def __init__(self, tracks):
        self.tracks = tracks
        self.lies = dict([(name, "left") for name in named_of(tracks, Points)])
        self.stiff, self.long, self.path = [], {}, {}
        self.routes = [route for signal in tracks.signals() for route in routes_from(tracks, signal[0])]

    def held(self, part):
        return part in [step[0] for path in self.path.values() for step in path]

    def against(self, route, seen):
        for part, entry, leave, lie in route[1:]:
            if self.held(part):
                return ("held", part)
            if seen.get(part, False):
                return ("taken", part)
            if lie != "" and self.lies[part] != lie and part in self.stiff:
                return ("stiff", part)
        return None

    def come(self, train, length, gate, seen):
        if not isinstance(train, str) or not re.fullmatch("[a-z][a-z0-9]{0,5}", train) or train in self.path:
            return ("BadName",)
        if gate not in named_of(self.tracks, Gate) or self.tracks.signal_at((gate, "a")) == "":
            return ("BadEnd",)
        if type(length) is not int or length not in (1, 2, 3, 4):
            return ("TooMany",)
        if self.held(gate):
            return ("Held", gate)
        if seen.get(gate, False):
            return ("Seen", gate)
        self.long[train], self.path[train] = length, [(gate, "", "a", "")]
        return ("told", None)

    def set_way(self, train, route, seen):
        if train not in list(self.path):
            return ("NoTrain",)
        last = self.path[train][-1]
        if route not in self.routes or route[0] != self.tracks.signal_at((last[0], last[2])):
            return ("BadWay",)
        told = self.against(route, seen)
        if told is not None:
            return ({"held": "Held", "taken": "Seen", "stiff": "Stiff"}[told[0]], told[1])
        for part, entry, leave, lie in route[1:]:
            if lie != "":
                self.lies[part] = lie
        self.path[train] = self.path[train] + list(route[1:])
        return ("told", None)

    def turn(self, points, lie, seen):
        if points not in list(self.lies) or lie not in ["left", "right"]:
            return ("BadName",)
        if self.held(points):
            return ("Held", points)
        if seen.get(points, False):
            return ("Seen", points)
        if points in self.stiff:
            return ("Stiff", points)
        self.lies[points] = lie
        return ("told", None)

    def stiffen(self, points):
        if points not in list(self.lies):
            return ("BadName",)
        self.stiff = sorted(set(self.stiff + [points]))
        return ("told", None)

    def loosen(self, points):
        if points not in list(self.lies):
            return ("BadName",)
        self.stiff = [name for name in self.stiff if name != points]
        return ("told", None)

    def look(self, seen):
        back = []
        for train in self.path:
            path, told = self.path[train], [seen.get(step[0], False) for step in self.path[train]]
            count = 0
            while not told[count] and True in told[count + self.long[train]:]:
                count += 1
            back += [step[0] for step in path[:count]]
            self.path[train] = path[count:]
        return ("told", sorted(back))

    def about(self, train):
        if train not in list(self.path):
            return ("NoTrain",)
        first = self.path[train][0]
        if first[1] != "" and self.tracks.signal_at((first[0], first[1])) == "":
            return ("NoTurn",)
        self.path[train] = [(part, leave, entry, lie) for part, entry, leave, lie in self.path[train]][::-1]
        return ("told", None)

    def leave(self, train):
        if train not in list(self.path):
            return ("NoTrain",)
        self.path.pop(train)
        return ("told", None)

    def shows(self, signal):
        ways = [(one[0], one[2]) for path in self.path.values() for one, other in zip(path, path[1:])]
        return self.tracks.end_of(signal) in ways

    def told(self):
        trains = sorted(self.path)
        return (trains, [(train, self.path[train]) for train in trains], [self.long[train] for train in trains],
                sorted(self.lies.items()), self.stiff,
                [self.shows(signal[0]) for signal in self.tracks.signals()])


class YardWords:
    """Points 18 and 20, and what the yard's section says, word by word, of the keeper's words and the world's."""
    def __init__(self, tracks):
        self.tracks, self.fault, self.log = tracks, None, []
        self.world, self.keeper = WorldWords(tracks), KeeperWords(tracks)

    def seen(self):
        told = dict([(part, self.world.stands(part) != []) for part in self.tracks.names()])
        if self.fault:
            told[self.fault[0]] = self.fault[1] == "stuck"
        return told

    def behind(self, *rows):
        self.log += list(rows) + [("back", part) for part in self.keeper.look(self.seen())[1]]

    def deed(self, kind, *handed):
        return getattr(self, kind)(*handed)

    def come(self, train, length, gate):
        came = self.keeper.come(train, length, gate, self.seen())
        if came[0] == "told":
            self.world.come(train, length, gate)
            self.behind(("come", train, gate))
        return came

    def lay(self):
        for points, lie in self.keeper.lies.items():
            self.world.turn(points, lie)

    def set_way(self, train, route):
        came = self.keeper.set_way(train, route, self.seen())
        if came[0] == "told":
            self.lay()
            self.behind(("way", train, route))
        return came

    def turn(self, points, lie):
        came = self.keeper.turn(points, lie, self.seen())
        if came[0] == "told":
            self.lay()
            self.behind(("turn", points, lie))
        return came

    def stiffen(self, points):
        return self.keeper.stiffen(points)

    def loosen(self, points):
        return self.keeper.loosen(points)

    def about(self, train):
        came = self.keeper.about(train)
        if came[0] == "told":
            self.world.about(train)
            self.behind(("about", train))
        return came

    def go(self, train):
        if train not in list(self.world.spots):
            return ("NoTrain",)
        head = self.world.spots[train][-1]
        signal = self.tracks.signal_at((head[0], led(self.tracks, self.world.lies, head)))
        word = self.world.go(train, signal != "" and self.keeper.shows(signal))
        self.behind(*([("went", train, self.world.spots[train][-1][0])] if word == "went" else []))
        return ("told", word)

    def leave(self, train):
        if train not in list(self.world.spots):
            return ("NoTrain",)
        part, end = self.world.spots[train][-1]
        if part not in named_of(self.tracks, Gate) or end != "a":
            return ("NoTurn",)
        self.keeper.leave(train)
        self.world.spots.pop(train)
        self.behind(("leave", train))
        return ("told", None)

    def fail(self, part, way):
        if part not in self.tracks.names() or way not in ["blind", "stuck"]:
            return ("BadName",)
        if self.fault:
            return ("OneFault",)
        self.fault = (part, way)
        self.behind()
        return ("told", None)

    def mend(self):
        self.fault = None
        self.behind()
        return ("told", None)

    def told(self):
        keeper, world = self.keeper.told(), self.world.told()
        return (keeper[0], keeper[1], keeper[3], keeper[4], keeper[5], world[1], world[3], world[4],
                list(self.seen().items()), self.fault, self.log)
