"""How many parts and words a pattern has, and patterns told by other names, more closely or more widely."""

from routeboard.errors import BadValues, NoHole, Taken, TooMany
from routeboard.matching import has_rest, lets_by
from routeboard.patterns import MOST_PARTS, MOST_WORDS, are_words, hole_named, hole_names, is_word
from routeboard.tables import RANKED_KINDS

# The names for the rest of a widened pattern, of which the first free one is taken.
REST_NAMES = ("r", "s", "t", "u", "v", "w", "x")


def kind_counts(pattern):
    kinds = [part[0] for part in pattern]
    return tuple([kinds.count(kind) for kind in RANKED_KINDS])


def bounds(pattern):
    if has_rest(pattern):
        return (len(pattern) - 1, MOST_WORDS)
    return (len(pattern), len(pattern))


def sought_hole(pattern, name):
    hole = hole_named(pattern, name)
    if hole is None:
        raise NoHole(f"no hole has the name {name!r}")
    return hole


def with_parts_for(pattern, hole, parts):
    at = pattern.index(hole)
    return pattern[:at] + parts + pattern[at + 1:]


def renamed(pattern, old, new):
    hole = sought_hole(pattern, old)
    if new != old and new in hole_names(pattern):
        raise Taken(f"another hole has the name {new!r}")
    return with_parts_for(pattern, hole, ((hole[0], new) + hole[2:],))


def words_for(hole, value):
    if hole[0] == "rest":
        if isinstance(value, tuple) and are_words(value):
            return value
    elif is_word(value) and lets_by(hole, value):
        return (value,)
    raise BadValues("the hole does not let this value by")


def narrowed(pattern, name, value):
    hole = sought_hole(pattern, name)
    words = words_for(hole, value)
    told = with_parts_for(pattern, hole, tuple([("word", word) for word in words]))
    if len(told) > MOST_PARTS:
        raise TooMany("the pattern would have too many parts")
    return told


def widened(pattern, at):
    if not 0 <= at < len(pattern):
        raise NoHole("no part has this number")
    if pattern[at][0] == "rest":
        return pattern
    ahead = pattern[:at]
    names = hole_names(ahead)
    return ahead + (("rest", [name for name in REST_NAMES if name not in names][0]),)
