"""Leads, which lead addresses on: one step, till none matches or an address comes again, and back."""

from routeboard.errors import BadLead
from routeboard.matching import matched, words_with
from routeboard.patterns import MOST_WORDS, has_twice, hole_named, is_hole, is_name, is_pattern, is_tuple_of

MOST_LEADS = 6


def fits_in(hole, other):
    """Whether the other hole can have all values of the hole."""
    if hole[0] == "one" and other[0] == "one":
        return all([word in other[2] for word in hole[2]])
    if hole[0] == "one" and other[0] == "any":
        return True
    return hole[0] == other[0]


def can_fill(pattern, goal_hole):
    hole = hole_named(pattern, goal_hole[1])
    return hole is not None and fits_in(hole, goal_hole)


def is_lead(thing):
    if not is_tuple_of(thing, 3, 3) or not is_name(thing[0]):
        return False
    if not is_pattern(thing[1]) or not is_pattern(thing[2]):
        return False
    return all([can_fill(thing[1], part) for part in thing[2] if is_hole(part)])


def are_leads(thing):
    if not is_tuple_of(thing, 0, MOST_LEADS) or not all([is_lead(lead) for lead in thing]):
        return False
    return not has_twice([lead[0] for lead in thing])


def goal_address(goal, some):
    words = words_with(goal, dict(some))
    if len(words) > MOST_WORDS:
        raise BadLead("the address led to would have too many words")
    return tuple(words)


def led_on(leads, address):
    for label, pattern, goal in leads:
        some = matched(pattern, address)
        if some is not None:
            return (label, goal_address(goal, some))
    return None


def way(leads, address):
    """A tuple of the addresses of the way, the labels of its steps, and whether it comes round."""
    # A dict keeps the order in which its keys came, and knows soon whether it has one.
    addresses = {address: True}
    labels = []
    step = led_on(leads, address)
    while step is not None:
        labels.append(step[0])
        if step[1] in addresses:
            return (list(addresses), labels, True)
        addresses[step[1]] = True
        step = led_on(leads, step[1])
    return (list(addresses), labels, False)


def followed(leads, address):
    gone = way(leads, address)
    return (gone[0], gone[2])


def labels_of(leads, address):
    return way(leads, address)[1]


def turned(lead):
    back = (lead[0], lead[2], lead[1])
    return back if is_lead(back) else None
