"""The kinds of parts: their ends, their lies, and where they lead."""

LETTERS = "abcdefghijklmnopqrstuvwxyz"
FIGURES = "0123456789"
LONGEST_NAME = 6


def is_name(thing):
    if not isinstance(thing, str):
        return False
    if thing == "" or len(thing) > LONGEST_NAME:
        return False
    # Python's own islower and isdigit hold of signs beyond a to z and 0 to 9 too.
    return thing[0] in LETTERS and all([sign in LETTERS + FIGURES for sign in thing])


class Part:
    def __init__(self, name):
        self.name = name

    def ends(self):
        return ["a", "b"]

    def lies(self):
        return [""]

    def pairs(self, lie):
        return [("a", "b")]

    def leads(self, end, lie=""):
        if lie not in self.lies():
            return ""
        for one, two in self.pairs(lie):
            if end == one:
                return two
            if end == two:
                return one
        return ""

    def bears(self):
        return True


class Plain(Part):
    pass


class Stop(Part):
    def ends(self):
        return ["a"]

    def pairs(self, lie):
        # Nowhere is told as "", and from "" a stop leads to a: one pair says both.
        return [("", "a")]


class Gate(Stop):
    pass


class Points(Part):
    def ends(self):
        return ["stem", "left", "right"]

    def lies(self):
        return ["left", "right"]

    def pairs(self, lie):
        return [("stem", lie)]

    def bears(self):
        return False


class Cross(Part):
    def ends(self):
        return ["a", "b", "c", "d"]

    def pairs(self, lie):
        return [("a", "b"), ("c", "d")]

    def bears(self):
        return False
