"""The eight poses: a table turned by quarters, or mirrored and then turned."""

from tablefind.errors import NoPose
from tablefind.tables import check_little

POSES = ("0", "1", "2", "3", "m0", "m1", "m2", "m3")


def check_pose(thing):
    """Refuse what is no pose."""
    if type(thing) is not str or thing not in POSES:
        raise NoPose("this is none of the eight poses")


def is_mirrored(pose):
    """Whether each row is turned about in the pose, ahead of the turns."""
    return pose.startswith("m")


def turns_of(pose):
    """How many quarter turns the pose has."""
    return int(pose[-1])


def _pose_of(mirrored, turns):
    """The pose with so many quarter turns, any number, behind a mirroring or none."""
    if mirrored:
        return POSES[4 + turns % 4]
    return POSES[turns % 4]


def _mirrored_rows(rows):
    return [row[::-1] for row in rows]


def _column_upwards(rows, j):
    return "".join([row[j] for row in rows[::-1]])


def _turned_rows(rows):
    """The rows behind one quarter turn."""
    return [_column_upwards(rows, j) for j in range(len(rows[0]))]


def rows_in_pose(rows, pose):
    """The rows of a little table in a pose, a new list; nothing is checked here."""
    told = _mirrored_rows(rows) if is_mirrored(pose) else list(rows)
    for _ in range(turns_of(pose)):
        told = _turned_rows(told)
    return told


def posed(little, pose):
    """The little table in a pose."""
    check_little(little)
    check_pose(pose)
    return rows_in_pose(little, pose)


def pose_behind(one, other):
    """The pose that comes to the first pose and then the second."""
    check_pose(one)
    check_pose(other)
    mirrored = is_mirrored(one) != is_mirrored(other)
    # A mirroring behind quarter turns comes to the same as one ahead of as
    # many turns the other way round.
    if is_mirrored(other):
        return _pose_of(mirrored, turns_of(other) - turns_of(one))
    return _pose_of(mirrored, turns_of(other) + turns_of(one))


def pose_back(pose):
    """The pose that undoes the pose."""
    check_pose(pose)
    # To mirror and then turn is to mirror along some line: twice is not at all.
    if is_mirrored(pose):
        return pose
    return _pose_of(False, -turns_of(pose))


def same_poses(little):
    """The poses in which the little table is as it is in "0"."""
    check_little(little)
    return [pose for pose in POSES if rows_in_pose(little, pose) == little]


def unlike_poses(little):
    """Each pose in which the little table is as in none of the poses before."""
    check_little(little)
    told = []
    seen = []
    for pose in POSES:
        rows = rows_in_pose(little, pose)
        if rows not in seen:
            seen.append(rows)
            told.append(pose)
    return told
