"""What the keeper and the world refuse alike: gates, lengths, points and lies that there are not."""

from yardkeep.errors import BadEnd, BadName, TooMany
from yardkeep.tracks import gates_of, points_of

LONGEST_TRAIN = 4


def refuse_gate(tracks, gate):
    if gate not in gates_of(tracks):
        raise BadEnd("there is no gate of this name")


def refuse_length(long):
    # For Python True is a whole number too, and it lies between 1 and 4.
    if not isinstance(long, int) or isinstance(long, bool) or not 1 <= long <= LONGEST_TRAIN:
        raise TooMany("a train is 1 to 4 parts long")


def refuse_points(tracks, points):
    if points not in points_of(tracks):
        raise BadName("there are no points of this name")


def refuse_lie(tracks, points, lie):
    refuse_points(tracks, points)
    if lie not in tracks.named(points).lies():
        raise BadName("points have no such lie")
