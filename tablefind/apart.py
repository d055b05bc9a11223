"""What the places of a little table cover, and how many of them lie apart."""

from tablefind.cells import cells_of
from tablefind.errors import TooMany
from tablefind.places import all_places, cells_of_signs
from tablefind.tables import check_both

MOST_PLACES = 14


def _cells_covered(place, signs):
    """The cells that a little table of these signs covers at the place."""
    i, j = place
    return [(i + r, j + c) for r, c, _ in signs]


def uncovered(great, little):
    """The cells of the great table, sorted, that no place of the little one covers."""
    check_both(great, little)
    signs = cells_of_signs(little)
    covered = set()
    for place in all_places(great, little):
        for cell in _cells_covered(place, signs):
            covered.add(cell)
    return [cell for cell in cells_of(great) if cell not in covered]


def _share_a_cell(one, other, signs):
    """Whether some cell is covered by both places."""
    covered = set(_cells_covered(one, signs))
    for cell in _cells_covered(other, signs):
        if cell in covered:
            return True
    return False


def _pairs_that_share(places, signs):
    """A dict with a key for each pair of places, the lesser first, that is not apart."""
    told = {}
    for at, one in enumerate(places):
        for other in places[at + 1:]:
            if _share_a_cell(one, other, signs):
                told[one, other] = True
    return told


def _first_of_most(places, sharing):
    """The most of the sorted places that are apart each from each, of several the first list."""
    most = []
    for at, place in enumerate(places):
        # Lists that begin here or later are no longer than the places left.
        if len(places) - at <= len(most):
            break
        rest = [other for other in places[at + 1:] if (place, other) not in sharing]
        chosen = [place] + _first_of_most(rest, sharing)
        # A list of the same length that begins later is not the first.
        if len(chosen) > len(most):
            most = chosen
    return most


def most_apart(great, little):
    """The most places, sorted, that are apart each from each, of several the first list."""
    check_both(great, little)
    signs = cells_of_signs(little)
    if len(signs) == 0:
        raise TooMany("this little table has free cells alone")
    places = all_places(great, little)
    if len(places) > MOST_PLACES:
        raise TooMany("this little table has more than fourteen places")
    return _first_of_most(places, _pairs_that_share(places, signs))
