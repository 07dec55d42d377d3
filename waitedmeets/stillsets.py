"""Sets of spots, rising tuples of their numbers: which are still, and what comes of one more letter.

Rules are parted ones here: for each rule, for each head, the spots that it takes.
"""

from waitedmeets.worths import is_number_below


def is_set(thing, many):
    """Whether it is a set of some of so many spots, of anything."""
    if not isinstance(thing, tuple) or not all([is_number_below(spot, many) for spot in thing]):
        return False
    return all([spot < other for spot, other in zip(thing, thing[1:])])


def first_rule(rules, spots):
    """The number of the first rule that can meet where letters lie at these spots, or None."""
    for number, heads in enumerate(rules):
        if all([any([spot in head for spot in spots]) for head in heads]):
            return number
    return None


def still_in(rules, many):
    """All still sets of so many spots, sorted by how many are in them, then as tuples.

    Each still set is made of one with a spot less: what is part of a still set is still. So they come in that order.
    """
    found = []
    level = [()]
    while len(level) > 0:
        found.extend(level)
        grown = [(*spots, spot) for spots in level for spot in range(after(spots), many)]
        level = [spots for spots in grown if first_rule(rules, spots) is None]
    return found


def after(spots):
    """The least number behind all of a set's."""
    if len(spots) == 0:
        return 0
    return spots[-1] + 1


def entry_of(rules, spots, spot):
    """What comes of a letter at a spot where a still set lies: ("goes", rule), or ("stays", the set behind)."""
    if spot in spots:
        return ("stays", spots)
    grown = tuple(sorted([*spots, spot]))
    rule = first_rule(rules, grown)
    if rule is None:
        return ("stays", grown)
    return ("goes", rule)


def entries_of(rules, many):
    """For each still set, in order, a list with what comes of a letter at each spot."""
    return {spots: [entry_of(rules, spots, spot) for spot in range(many)] for spots in still_in(rules, many)}
