"""A shortest address that some patterns match and others do not: what all comparing comes down to."""

from routeboard.matching import has_fitting_length, has_rest, lets_by


def part_at(pattern, at):
    """The part that the word of this number meets: behind the end none, from the place of a rest on the rest."""
    if at < len(pattern):
        return pattern[at]
    return pattern[-1] if has_rest(pattern) else None


def parts_at(patterns, at):
    return [part_at(pattern, at) for pattern in patterns]


def can_pass(part, word):
    return part is not None and lets_by(part, word)


def named_words(part):
    """The words that a part lets by, if it names them; None of other parts, and where there is no part."""
    if part is None:
        return None
    if part[0] == "word":
        return (part[1],)
    return part[2] if part[0] == "one" else None


def all_named(parts):
    words = []
    for part in parts:
        named = named_words(part)
        if named is not None:
            words.extend(named)
    return words


def new_word(start, words):
    number = 0
    while f"{start}{number}" in words:
        number += 1
    return f"{start}{number}"


def words_to_try(wanted, unwanted):
    """Some words that the wanted parts let by: where any word is good to go on with, one of these is."""
    if None in wanted:
        return []
    for part in wanted:
        named = named_words(part)
        if named is not None:
            return [word for word in named if all([lets_by(other, word) for other in wanted])]
    # What lets a word by without naming it lets all numbers by, or all words: so no number is stopped by more
    # unwanted parts than a new number is, and no word by more than a new word that is no number.
    start = "" if "number" in [part[0] for part in wanted] else "x"
    return [new_word(start, all_named(unwanted))]


def takes_all_behind(pattern, many):
    return has_rest(pattern) and has_fitting_length(pattern, many)


def one_word_on(reached, wanted, unwanted, at):
    # Where one of these is left, no word behind helps.
    lost = [takes_all_behind(pattern, at + 1) for pattern in unwanted]
    parts = parts_at(unwanted, at)
    further = {}
    for word in words_to_try(parts_at(wanted, at), parts):
        passing = [can_pass(part, word) for part in parts]
        for left, address in reached.items():
            still = tuple([number for number in left if passing[number]])
            if not any([lost[number] for number in still]):
                further[still] = address + (word,)
    return further


def ended(reached, unwanted, many):
    matching = [has_fitting_length(pattern, many) for pattern in unwanted]
    for left, address in reached.items():
        if not any([matching[number] for number in left]):
            return address
    return None


def shortest(wanted, unwanted):
    """A shortest address that all wanted patterns match and none of the unwanted; None, where there is none."""
    # By the numbers of the unwanted patterns that have let all words by so far: what comes behind hangs on
    # these alone, so one address for each such tuple is enough.
    reached = {tuple(range(len(unwanted))): ()}
    many = 0
    # This ends: behind the longest pattern an unwanted one has either stopped a word or takes all behind.
    while len(reached) > 0:
        if all([has_fitting_length(pattern, many) for pattern in wanted]):
            address = ended(reached, unwanted, many)
            if address is not None:
                return address
        reached = one_word_on(reached, wanted, unwanted, many)
        many += 1
    return None
