"""Tables and little tables: what they are, and what is counted in them."""

from tablefind.errors import NoTable

FREE = "?"


def _has_even_rows(thing):
    """Whether this is a list of texts of one length, one at least, none of them empty."""
    # Anything may come here, also objects that pass for a list or a text and
    # fail when they are read: so only the plain kinds are let through.
    if type(thing) is not list or len(thing) == 0:
        return False
    for row in thing:
        if type(row) is not str or len(row) == 0 or len(row) != len(thing[0]):
            return False
    return True


def _has_signs_only(row):
    """Whether each character of the text may stand in a little table."""
    return all(["!" <= sign <= "~" for sign in row])


def is_little(thing):
    """Whether this is a little table; anything may be asked about."""
    return _has_even_rows(thing) and all([_has_signs_only(row) for row in thing])


def is_table(thing):
    """Whether this is a table; anything may be asked about."""
    return is_little(thing) and all([FREE not in row for row in thing])


def check_table(thing):
    """Refuse what is no table."""
    if not is_table(thing):
        raise NoTable("this is no table")


def check_little(thing):
    """Refuse what is no little table."""
    if not is_little(thing):
        raise NoTable("this is no little table")


def check_both(great, little):
    """Refuse a great table that is none, then a little one that is none."""
    check_table(great)
    check_little(little)


def size_of(little):
    """How many rows and how many columns the little table has."""
    check_little(little)
    return len(little), len(little[0])


def how_many_free(little):
    """How many cells of the little table are free."""
    check_little(little)
    return sum([row.count(FREE) for row in little])


def signs_counted(little):
    """How often each sign stands in the little table, free cells left out."""
    check_little(little)
    counts = {}
    for row in little:
        for sign in row:
            if sign != FREE:
                counts[sign] = counts.get(sign, 0) + 1
    return counts
