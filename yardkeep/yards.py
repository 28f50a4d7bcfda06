"""A yard: a world and its keeper, who sees of it what the eyes tell, and a log of what was done."""

from yardkeep.errors import NoTurn
from yardkeep.eyes import Eyes
from yardkeep.keeper import Keeper
from yardkeep.tracks import gates_of
from yardkeep.world import World


class Yard:
    def __init__(self, tracks):
        self.tracks = tracks
        self.world = World(tracks)
        self.keeper = Keeper(tracks)
        self.eyes = Eyes(tracks.names())
        self.done = []

    def look(self):
        self.done.extend([("back", part) for part in self.keeper.look(self.seen())])

    def note(self, row):
        self.done.append(row)
        self.look()

    def lay(self):
        for points, lie in self.keeper.lies().items():
            self.world.turn(points, lie)

    def come(self, train, length, gate):
        self.keeper.come(train, length, gate, self.seen())
        self.world.come(train, length, gate)
        self.note(("come", train, gate))

    def set_way(self, train, route):
        self.keeper.set_way(train, route, self.seen())
        self.lay()
        self.note(("way", train, route))

    def turn(self, points, lie):
        self.keeper.turn(points, lie, self.seen())
        self.lay()
        self.note(("turn", points, lie))

    def stiffen(self, points):
        self.keeper.stiffen(points)
        self.look()

    def loosen(self, points):
        self.keeper.loosen(points)
        self.look()

    def about(self, train):
        self.keeper.about(train)
        self.world.about(train)
        self.note(("about", train))

    def go(self, train):
        word = self.world.go(train, lambda signal: self.keeper.shows(signal))
        if word == "went":
            self.note(("went", train, self.spots(train)[-1][0]))
        else:
            self.look()
        return word

    def leave(self, train):
        head = self.spots(train)[-1]
        if head[0] not in gates_of(self.tracks) or head[1] != "a":
            raise NoTurn("this train's head isn't in a gate to which it came")
        self.keeper.leave(train)
        self.world.leave(train)
        self.note(("leave", train))

    def fail(self, part, way):
        self.eyes.fail(part, way)
        self.look()

    def mend(self):
        self.eyes.mend()
        self.look()

    def log(self):
        return list(self.done)

    def spots(self, train):
        return self.world.spots(train)

    def accidents(self):
        return self.world.accidents()

    def taken(self):
        return self.world.taken()

    def path(self, train):
        return self.keeper.path(train)

    def paths(self):
        return self.keeper.paths()

    def lies(self):
        return self.keeper.lies()

    def shows(self, signal):
        return self.keeper.shows(signal)

    def trains(self):
        return self.keeper.trains()

    def stiff(self):
        return self.keeper.stiff()

    def seen(self):
        return self.eyes.tells(self.taken())

    def fault(self):
        return self.eyes.fault()
