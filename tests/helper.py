"""Yards that several tests ask of, things that are no names or lengths, and what came of an asking."""

from yardkeep.errors import YardError
from yardkeep.parts import Cross, Gate, Part, Plain, Points, Stop
from yardkeep.routes import goal_of, routes_from
from yardkeep.tracks import Tracks
from yardkeep.yards import Yard

NO_NAMES = [None, True, False, 0, 1, "", "T", "1t", "t t", "t_", "sevenup", "\u00e9", "t\n", [], ["t"], ("t",), {},
            {"t": True}, {"t"}]
NO_LENGTHS = [0, -1, 5, 6, 100, -4, True, False, None, "1", "", [], [1], (2,), {}]


def every_kind():
    return [Gate("g"), Plain("p"), Points("w"), Cross("x"), Stop("s"), Plain("q"), Part("r"), Stop("t")]


def their_joins():
    return [(("g", "a"), ("p", "a")), (("w", "stem"), ("p", "b")), (("w", "left"), ("x", "a")),
            (("x", "c"), ("w", "right")), (("x", "b"), ("s", "a")), (("x", "d"), ("q", "a")),
            (("q", "b"), ("r", "a")), (("t", "a"), ("r", "b"))]


def their_signals():
    return [("sp", "p", "b"), ("g", "g", "a"), ("z1", "s", "a"), ("a1", "r", "a"), ("m", "p", "a")]


def small_yard():
    return Tracks(every_kind(), their_joins(), their_signals())


def ring(count):
    """A ring of plain parts, in which each part has two ends that may bear a signal."""
    names = ["p" + str(k) for k in range(count)]
    return [Plain(name) for name in names], [((names[k - 1], "b"), (names[k], "a")) for k in range(count)]


def line(count, signals):
    """A gate, count plain parts and a stop, one behind the other."""
    names = ["p" + str(k) for k in range(count)]
    rows = [("g", "a")] + [(name, end) for name in names for end in "ab"] + [("s", "a")]
    joins = [(rows[k], rows[k + 1]) for k in range(0, len(rows), 2)]
    return Tracks([Gate("g")] + [Plain(name) for name in names] + [Stop("s")], joins, signals)


def line_steps(count):
    """The steps from the gate of such a line to its stop."""
    return tuple([("p" + str(k), "a", "b", "") for k in range(count)]) + (("s", "a", "", ""),)


def diamonds(count, signals):
    """From a gate to a stop by so many pairs of points, between which one may go left or right."""
    parts = [Gate("g"), Stop("s")] + [Points("w" + str(k)) for k in range(2 * count)]
    joins = [(("g", "a"), ("w0", "stem")), (("w" + str(2 * count - 1), "stem"), ("s", "a"))]
    for k in range(0, 2 * count, 2):
        one, other = "w" + str(k), "w" + str(k + 1)
        joins += [((one, "left"), (other, "left")), ((one, "right"), (other, "right"))]
        if k > 0:
            joins.append((("w" + str(k - 1), "stem"), (one, "stem")))
    return Tracks(parts, joins, signals)


def loop(signals):
    """A gate and points whose left and right are joined by one plain part."""
    joins = [(("g", "a"), ("w", "stem")), (("w", "left"), ("l", "a")), (("l", "b"), ("w", "right"))]
    return Tracks([Gate("g"), Points("w"), Plain("l")], joins, signals)


def eight(signals):
    """A way from a gate to a stop that goes over one cross twice."""
    joins = [(("g", "a"), ("x", "a")), (("x", "b"), ("l", "a")), (("l", "b"), ("x", "c")), (("x", "d"), ("s", "a"))]
    return Tracks([Gate("g"), Cross("x"), Plain("l"), Stop("s")], joins, signals)


def fork():
    """From the gate g by p to the points w; left of them the stop s, right of them q and the gate h."""
    joins = [(("g", "a"), ("p", "a")), (("p", "b"), ("w", "stem")), (("w", "left"), ("s", "a")),
             (("w", "right"), ("q", "a")), (("q", "b"), ("h", "a"))]
    signals = [("in", "g", "a"), ("up", "p", "b"), ("back", "p", "a"), ("hi", "h", "a")]
    return Tracks([Plain("q"), Gate("h"), Points("w"), Gate("g"), Stop("s"), Plain("p")], joins, signals)


def station():
    """From the gate g by m and the points w to p or q, from both by the points v and k to the gate h; the points y
    lead from q to the stop s too."""
    joins = [(("g", "a"), ("m", "a")), (("m", "b"), ("w", "stem")), (("w", "left"), ("p", "a")),
             (("w", "right"), ("q", "a")), (("p", "b"), ("v", "left")), (("q", "b"), ("y", "stem")),
             (("y", "left"), ("v", "right")), (("y", "right"), ("s", "a")), (("v", "stem"), ("k", "a")),
             (("k", "b"), ("h", "a"))]
    signals = [("gi", "g", "a"), ("hi", "h", "a"), ("so", "s", "a")]
    signals += [(part + end, part, end) for part in "mpqk" for end in "ab"]
    parts = [Plain(name) for name in "qpkm"] + [Points(name) for name in "ywv"] + [Stop("s"), Gate("h"), Gate("g")]
    return Tracks(parts, joins, signals)


def some_yards():
    """Yards with signals, of many forms."""
    both = [("in", "g", "a"), ("out", "s", "a")]
    parts, joins = ring(5)
    return [small_yard(), line(0, both), line(3, both), line(11, both), line(12, both),
            line(3, both + [("up", "p1", "b"), ("down", "p1", "a")]),
            diamonds(1, both), diamonds(3, both), loop([("in", "g", "a")]), loop([("in", "g", "a"), ("l", "l", "b")]),
            eight(both), eight(both + [("l", "l", "b"), ("k", "l", "a")]),
            Tracks(parts, joins, [("one", "p0", "b")]), Tracks(parts, joins, [("one", "p0", "b"), ("two", "p3", "a")])]


def drawn_yard(chance):
    """A yard of parts and joins as they fall; chance is a random source with a seed of its own."""
    while True:
        kinds = [Gate, Stop, Plain, Plain, Points, Points, Points, Cross]
        parts = [chance.choice(kinds)("n" + str(k)) for k in range(chance.randint(2, 14))]
        ends = [(part.name, end) for part in parts for end in part.ends()]
        chance.shuffle(ends)
        joins = list(zip(ends[::2], ends[1::2]))
        if len(ends) % 2 == 0 and all([one[0] != other[0] for one, other in joins]):
            bearing = [(part.name, end) for part in parts if part.bears() for end in part.ends()]
            posts = [end for end in bearing if chance.random() < 0.4]
            return Tracks(parts, joins, [("s" + str(k), end[0], end[1]) for k, end in enumerate(posts)])


def way(tracks, signal, goal):
    """The first route from a signal to a goal."""
    return [route for route in routes_from(tracks, signal) if goal_of(route) == goal][0]


def outcome(ask, *handed):
    """What came of an asking: ("told", value), or the refusal's name, with its part where it has one."""
    try:
        return ("told", ask(*handed))
    except YardError as refusal:
        word = refusal.__class__.__name__
        return (word, refusal.part) if word in ("Held", "Seen", "Stiff") else (word,)


STATION = station()
TO_M, TO_P, TO_Q = way(STATION, "gi", "m"), way(STATION, "mb", "p"), way(STATION, "mb", "q")
P_TO_K, Q_TO_K, TO_S, TO_H = [way(STATION, *ends) for ends in (("pb", "k"), ("qb", "k"), ("qb", "s"), ("kb", "h"))]
H_TO_K, K_TO_P, K_TO_Q = way(STATION, "hi", "k"), way(STATION, "ka", "p"), way(STATION, "ka", "q")


def yard_with(*routes, length=1, went=0):
    """A station to whose gate g the train t came, for which these ways were set, and which then went on so often."""
    yard = Yard(STATION)
    yard.come("t", length, "g")
    for route in routes:
        yard.set_way("t", route)
    for k in range(went):
        yard.go("t")
    return yard
