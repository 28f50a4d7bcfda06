"""The eyes: one at each part, of which at most one is at fault."""

from yardkeep.errors import BadName, OneFault

BLIND = "blind"
STUCK = "stuck"


class Eyes:
    def __init__(self, names):
        self.watched = sorted(names)
        self.faulty = None

    def fail(self, part, way):
        if part not in self.watched:
            raise BadName("there is no eye at such a part")
        if way not in (BLIND, STUCK):
            raise BadName("an eye fails blind or stuck")
        if self.faulty is not None:
            raise OneFault("an eye is at fault already")
        self.faulty = (part, way)

    def mend(self):
        self.faulty = None

    def fault(self):
        return self.faulty

    def tells(self, taken):
        told = dict([(part, taken.get(part, False)) for part in self.watched])
        if self.faulty is not None:
            told[self.faulty[0]] = self.faulty[1] == STUCK
        return told
