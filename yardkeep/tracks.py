"""The tracks: parts joined end with end, and the signals that stand there."""

from yardkeep.errors import BadEnd, BadName, TooMany
from yardkeep.parts import Gate, Points, is_name

MOST_PARTS = 40
MOST_SIGNALS = 40


def is_pair(thing):
    return isinstance(thing, tuple) and len(thing) == 2


def is_known(end, ends):
    # A dict can't be asked of every thing: an end is looked up only where it is one by its form.
    return is_pair(end) and isinstance(end[0], str) and isinstance(end[1], str) and end in ends


def refuse_name(name, known):
    if not is_name(name):
        raise BadName("this is no name")
    if name in known:
        raise BadName("this name stands ahead already")


def parts_by_name(parts):
    part_of = {}
    for part in parts:
        refuse_name(part.name, part_of)
        part_of[part.name] = part
    return part_of


def ends_to_parts(part_of):
    part_at = {}
    for name, part in part_of.items():
        for end in part.ends():
            part_at[(name, end)] = part
    return part_at


def refuse_join(join, part_at, joined):
    if not is_pair(join):
        raise BadEnd("a join is a pair of ends")
    for end in join:
        if not is_known(end, part_at):
            raise BadEnd("a join tells an end that there is not")
        if end in joined:
            raise BadEnd("this end was joined ahead")
    if join[0][0] == join[1][0]:
        raise BadEnd("a join tells two ends of one part")


def joined_ends(joins, part_at):
    joined = {}
    for join in joins:
        refuse_join(join, part_at, joined)
        joined[join[0]] = join[1]
        joined[join[1]] = join[0]
    if len(joined) < len(part_at):
        raise BadEnd("an end is left over")
    return joined


def refuse_post(end, part_at, ends_with_signals):
    if not is_known(end, part_at):
        raise BadEnd("a signal stands at an end that there is not")
    if not part_at[end].bears():
        raise BadEnd("a signal stands at a part that bears none")
    if end in ends_with_signals:
        raise BadEnd("a signal stands there already")


def posts_of(signals, part_at):
    post_of = {}
    for signal in signals:
        name = signal[0]
        end = signal[1:]
        refuse_name(name, post_of)
        refuse_post(end, part_at, list(post_of.values()))
        post_of[name] = end
    return post_of


class Tracks:
    def __init__(self, parts, joins, signals=None):
        asked_signals = [] if signals is None else signals
        if len(parts) > MOST_PARTS or len(asked_signals) > MOST_SIGNALS:
            raise TooMany("over 40 parts or signals")
        self.part_of = parts_by_name(parts)
        part_at = ends_to_parts(self.part_of)
        self.joined = joined_ends(joins, part_at)
        self.post_of = posts_of(asked_signals, part_at)
        self.signal_on = dict([(end, name) for name, end in self.post_of.items()])

    def names(self):
        return sorted(self.part_of)

    def named(self, name):
        if not is_name(name) or name not in self.part_of:
            raise BadName("there is no part of this name")
        return self.part_of[name]

    def beyond(self, end):
        return self.joined[end] if is_known(end, self.joined) else ("", "")

    def signal_at(self, end):
        return self.signal_on[end] if is_known(end, self.signal_on) else ""

    def signals(self):
        return sorted([(name, end[0], end[1]) for name, end in self.post_of.items()])

    def end_of(self, signal):
        if not is_name(signal) or signal not in self.post_of:
            raise BadName("there is no signal of this name")
        return self.post_of[signal]


def gates_of(tracks):
    return [name for name in tracks.names() if isinstance(tracks.named(name), Gate)]


def points_of(tracks):
    return [name for name in tracks.names() if isinstance(tracks.named(name), Points)]


def lies_at_first(tracks):
    return dict([(points, "left") for points in points_of(tracks)])
