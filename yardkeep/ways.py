"""Steps over one part: into it at an end, and out at another one."""

from yardkeep.parts import Stop

NO_END = ("", "")


def steps_into(tracks, end):
    # Each end that there is is joined: what has nothing beyond it is no end.
    if tracks.beyond(end) == NO_END:
        return []
    name = end[0]
    entry = end[1]
    part = tracks.named(name)
    steps = [(name, entry, part.leads(entry, lie), lie) for lie in part.lies()]
    return sorted([step for step in steps if step[2] != "" or isinstance(part, Stop)])


def end_behind(step):
    return (step[0], step[2])


def ends_there(tracks, step):
    return step[2] == "" or tracks.signal_at(end_behind(step)) != ""


def backward(step):
    return (step[0], step[2], step[1], step[3])
