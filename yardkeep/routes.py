"""Routes: from a signal, step by step, to the next one or to where the track ends."""

from yardkeep.ways import end_behind, ends_there, steps_into

MOST_STEPS = 12


def steps_on(tracks, begun):
    """The steps that may stand behind what a route begins with: its signal, and no step or some that end none."""
    if len(begun) > MOST_STEPS:
        return []
    post = tracks.end_of(begun[0])
    last = post if len(begun) == 1 else end_behind(begun[-1])
    passed = [post[0]] + [step[0] for step in begun[1:]]
    return [step for step in steps_into(tracks, tracks.beyond(last)) if step[0] not in passed]


def routes_from(tracks, signal):
    found = []
    # Nothing is asked of the signal here: the first steps_on refuses one that there is not.
    begun = [(signal,)]
    while begun:
        ahead = begun.pop()
        for step in steps_on(tracks, ahead):
            if ends_there(tracks, step):
                found.append(ahead + (step,))
            else:
                begun.append(ahead + (step,))
    return sorted(found)


def is_route(tracks, thing):
    if not isinstance(thing, tuple) or len(thing) < 2:
        return False
    if thing[0] not in [signal[0] for signal in tracks.signals()]:
        return False
    for place in range(1, len(thing)):
        if thing[place] not in steps_on(tracks, thing[:place]):
            return False
        if ends_there(tracks, thing[place]):
            return place == len(thing) - 1
    return False


def goal_of(route):
    return route[-1][0]


def lies_of(route):
    return [(step[0], step[3]) for step in route[1:] if step[3] != ""]
