"""The world: where trains stand and how points lie, as it is, and the accidents."""

from yardkeep.checks import refuse_gate, refuse_length, refuse_lie
from yardkeep.errors import NoTrain
from yardkeep.parts import Stop
from yardkeep.tracks import lies_at_first, refuse_name


class Train:
    def __init__(self, name, long, gate):
        self.name = name
        self.long = long
        self.stands = [(gate, "")]


class World:
    def __init__(self, tracks):
        self.tracks = tracks
        self.lie_of = lies_at_first(tracks)
        self.train_of = {}
        self.mishaps = []

    def train_there(self, name):
        if name not in self.trains():
            raise NoTrain("there is no train of this name")
        return self.train_of[name]

    def led_to(self, spot):
        return self.tracks.named(spot[0]).leads(spot[1], self.lie_of.get(spot[0], ""))

    def mishap_at(self, spot):
        if self.taken()[spot[0]]:
            return "crash"
        if self.led_to(spot) == "" and not isinstance(self.tracks.named(spot[0]), Stop):
            return "off"
        return ""

    def move(self, train, spot):
        mishap = self.mishap_at(spot)
        if mishap != "":
            self.mishaps.append((mishap, spot[0]))
            return mishap
        train.stands = (train.stands + [spot])[-train.long:]
        return "went"

    def come(self, name, long, gate):
        refuse_name(name, self.train_of)
        refuse_gate(self.tracks, gate)
        refuse_length(long)
        if self.taken()[gate]:
            self.mishaps.append(("crash", gate))
        else:
            self.train_of[name] = Train(name, long, gate)

    def go(self, name, shows):
        train = self.train_there(name)
        head = train.stands[-1]
        end = (head[0], self.led_to(head))
        if end[1] == "":
            return "end"
        signal = self.tracks.signal_at(end)
        if signal != "" and not shows(signal):
            return "stop"
        return self.move(train, self.tracks.beyond(end))

    def about(self, name):
        train = self.train_there(name)
        train.stands = [(spot[0], self.led_to(spot)) for spot in reversed(train.stands)]

    def leave(self, name):
        self.train_of.pop(self.train_there(name).name)

    def turn(self, points, lie):
        refuse_lie(self.tracks, points, lie)
        if lie != self.lie_of[points] and self.taken()[points]:
            self.mishaps.append(("split", points))
        self.lie_of[points] = lie

    def lies(self):
        return dict(self.lie_of)

    def spots(self, name):
        return list(self.train_there(name).stands)

    def trains(self):
        return sorted(self.train_of)

    def taken(self):
        told = dict([(part, False) for part in self.tracks.names()])
        for train in self.train_of.values():
            for spot in train.stands:
                told[spot[0]] = True
        return told

    def accidents(self):
        return list(self.mishaps)
