"""Paths: the steps over which trains go, made longer ahead of them and given back behind them."""

from yardkeep.errors import Held
from yardkeep.ways import backward, end_behind, steps_into


def parts_of(steps):
    return [step[0] for step in steps]


def holder(paths, part):
    for train, path in paths.items():
        if part in parts_of(path):
            return train
    return ""


def refuse_held(paths, steps):
    ahead = []
    for part in parts_of(steps):
        if part in ahead or holder(paths, part) != "":
            raise Held(part)
        ahead.append(part)


def longer(paths, train, steps):
    refuse_held(paths, steps)
    told = dict([(name, list(path)) for name, path in paths.items()])
    told[train] = told.get(train, []) + list(steps)
    return told


def given_back(path, length, seen):
    taken = [place for place, part in enumerate(parts_of(path)) if seen.get(part, False)]
    if not taken:
        return 0
    # Whether some part further on is told taken hangs on the furthest alone, and nothing goes
    # beyond the first one that is told taken.
    return max(0, min(taken[0], taken[-1] - length + 1))


def shortened(paths, lengths, seen):
    told = {}
    for train, path in paths.items():
        told[train] = path[given_back(path, lengths[train], seen):]
    return told


def turned_path(path):
    return [backward(step) for step in reversed(path)]


def is_way(tracks, step):
    if step[1] == "":
        # The way out of a stop or a gate is the one into it, backward.
        return backward(step) in steps_into(tracks, end_behind(step))
    return step in steps_into(tracks, (step[0], step[1]))


def joins_on(tracks, path):
    for ahead, step in zip(path, path[1:]):
        if tracks.beyond(end_behind(ahead)) != (step[0], step[1]):
            return False
    return all([is_way(tracks, step) for step in path])
