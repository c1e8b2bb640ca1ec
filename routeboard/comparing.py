"""Patterns and tables held against one another, each time with a shortest address that shows what is told."""

from routeboard.searching import shortest
from routeboard.tables import number_of


def common(one, other):
    return shortest([one, other], [])


def aside(one, other):
    return shortest([one], [other])


def is_within(one, other):
    return aside(one, other) is None


def how_they_lie(one, other):
    if is_within(one, other):
        return "same" if is_within(other, one) else "less"
    if is_within(other, one):
        return "more"
    return "apart" if common(one, other) is None else "cross"


def uncovered(pattern, others):
    return shortest([pattern], others)


def patterns_of(rows):
    return [row[1] for row in rows]


def reaching(table, label):
    at = number_of(table, label)
    return uncovered(table[at][1], patterns_of(table[:at]))


def unreached(table):
    return [row[0] for row in table if reaching(table, row[0]) is None]


def without_unreached(table):
    hidden = unreached(table)
    return tuple([row for row in table if row[0] not in hidden])


def unmatched(table):
    return shortest([], patterns_of(table))


def goals(table):
    """Tuples for each row, and for no row: its label, the patterns that an address led there matches, and not."""
    rows = [(row[0], [row[1]], patterns_of(table[:at])) for at, row in enumerate(table)]
    return rows + [(None, [], patterns_of(table))]


def parting(one, other):
    found = []
    for label, wanted, unwanted in goals(one):
        for other_label, other_wanted, other_unwanted in goals(other):
            if label != other_label:
                found.append(shortest(wanted + other_wanted, unwanted + other_unwanted))
    return min([address for address in found if address is not None], key=len, default=None)


def are_alike(one, other):
    return parting(one, other) is None


def swapped(table, at):
    # Slices, so that a row that has no next one stays where it is.
    return table[:at] + table[at + 1:at + 2] + table[at:at + 1] + table[at + 2:]


def can_swap(table, at):
    return are_alike(table, swapped(table, at))


def clashes(table):
    found = []
    for at, row in enumerate(table):
        for other in table[at + 1:]:
            if common(row[1], other[1]) is not None:
                found.append((row[0], other[0]))
    return found
