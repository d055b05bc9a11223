"""The places of a little table in any pose, and where cells go in a pose."""

from tablefind.cells import is_cell
from tablefind.errors import NoCell
from tablefind.places import all_places
from tablefind.poses import check_pose, is_mirrored, rows_in_pose, turns_of, unlike_poses
from tablefind.tables import check_both, check_table


def places_posed(great, little):
    """All tuples (i, j, pose) of the unlike poses in which the little table stands at (i, j)."""
    check_both(great, little)
    told = []
    for pose in unlike_poses(little):
        for i, j in all_places(great, rows_in_pose(little, pose)):
            told.append((i, j, pose))
    # The order of the poses is that of their texts.
    return sorted(told)


def _check_cell_of(great, thing):
    """Refuse what is no cell of the great table."""
    if not is_cell(thing) or thing[0] >= len(great) or thing[1] >= len(great[0]):
        raise NoCell("this is no cell of the great table")


def cell_posed(great, cell, pose):
    """The cell to which a cell of the great table goes in a pose."""
    check_table(great)
    check_pose(pose)
    _check_cell_of(great, cell)
    rows, columns = len(great), len(great[0])
    i, j = cell
    if is_mirrored(pose):
        j = columns - 1 - j
    for _ in range(turns_of(pose)):
        i, j = j, rows - 1 - i
        rows, columns = columns, rows
    return i, j
