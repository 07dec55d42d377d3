"""Letters parted by what they carry: the spots of a kind, and its rules over them."""

from waitedmeets.errors import TooMany
from waitedmeets.programs import kind_of
from waitedmeets.worths import alike

MOST_SPOTS = 24


def spots_of(program, name):
    """The spots of a kind, tuples (place, class), in their order."""
    return spots_in(parted_kind(program, name))


def spot_of(program, name, place, given):
    """The number of the spot of a letter at a place, by what is given."""
    return spot_among(spots_in(parted_kind(program, name)), place, given)


def parted_rules(program, name):
    """For each rule and each head the numbers of the spots that it takes, rising."""
    return parted_in(parted_kind(program, name))


def parted_kind(program, name):
    """The kind of this name; TooMany where it has too many spots."""
    kind = kind_of(program, name)
    many = count_spots(kind)
    if many > MOST_SPOTS:
        raise TooMany(many)
    return kind


def count_spots(kind):
    """How many spots a kind has; they are not made for it, as they may be far too many."""
    total = 0
    for place, many in kind[1]:
        classes = 1
        for slot in range(many):
            classes = classes * (len(constants_at(kind, place, slot)) + 1)
        total += classes
    return total


def constants_at(kind, place, slot):
    """The worths that heads ask for at a place's slot, each once: numbers rising, then False, True."""
    asked = []
    for heads, deeds in kind[2]:
        asked.extend([slots[slot][1] for where, slots in heads if where == place and slots[slot][0] == "is"])
    numbers = sorted(set([worth for worth in asked if not isinstance(worth, bool)]))
    truths = [truth for truth in (False, True) if any([alike(worth, truth) for worth in asked])]
    return [*numbers, *truths]


def classes_at(kind, place, many):
    """The classes of a place, the first slot's worth changing last."""
    rows = [()]
    for slot in range(many):
        parts = constants_at(kind, place, slot) + [None]
        rows = [(*row, part) for row in rows for part in parts]
    return rows


def spots_in(kind):
    """The spots of a kind, place by place."""
    return [(place, row) for place, many in kind[1] for row in classes_at(kind, place, many)]


def spot_among(spots, place, given):
    """The number of the spot of a letter at a place.

    Of the spots that would do it is the first: a slot's constants stand ahead of None, which any worth would do for.
    """
    for number, (where, row) in enumerate(spots):
        if where == place and all([part is None or alike(part, worth) for part, worth in zip(row, given)]):
            return number
    return None


def parted_in(kind):
    """The parted rules of a kind."""
    spots = spots_in(kind)
    return tuple([tuple([spots_taken(spots, head) for head in heads]) for heads, deeds in kind[2]])


def spots_taken(spots, head):
    """The numbers of the spots that a head takes."""
    place, slots = head
    return tuple([number for number, (where, row) in enumerate(spots) if where == place and takes(slots, row)])


def takes(slots, row):
    """Whether a class has at each slot that asks for a worth just that worth."""
    return all([slot[0] == "as" or alike(slot[1], part) for slot, part in zip(slots, row)])
