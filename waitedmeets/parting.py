"""Letters parted by what they carry: the spots of a kind, and its rules over them.

A grid of a kind has for each place, in order, the number of its first spot, and for each slot a list of its constants.
"""

from waitedmeets.errors import TooMany
from waitedmeets.programs import kind_named
from waitedmeets.worths import alike

MOST_SPOTS = 24


def spots_of(program, name):
    """The spots of a kind, tuples (place, class), in their order."""
    kind, grid, many = parted_kind(program, name, MOST_SPOTS)
    return [(place, row) for place in grid for row in classes_by(grid[place][1])]


def spot_of(program, name, place, given):
    """The number of the spot of a letter at a place, by what is given."""
    kind, grid, many = parted_kind(program, name, MOST_SPOTS)
    return spot_in(grid, place, given)


def parted_rules(program, name):
    """For each rule and each head the numbers of the spots that it takes, rising."""
    kind, grid, many = parted_kind(program, name, MOST_SPOTS)
    return parted_in(kind, grid)


def parted_kind(program, name, most):
    """The kind of this name, its grid, and how many spots it has; TooMany where these are more than most."""
    kind = kind_named(program, name)
    grid, many = grid_of(kind)
    if many > most:
        raise TooMany(many)
    return kind, grid, many


def grid_of(kind):
    """The grid of a kind, and how many spots it has; they are not made for it, as they may be far too many."""
    asked = asked_in(kind)
    grid = {}
    many = 0
    for place in asked:
        rows = [in_order(worths) for worths in asked[place]]
        grid[place] = (many, rows)
        classes = 1
        for constants in rows:
            classes = classes * (len(constants) + 1)
        many += classes
    return grid, many


def asked_in(kind):
    """For each place and slot all worths that heads ask for there."""
    asked = {place: [[] for slot in range(many)] for place, many in kind[1]}
    for heads, deeds in kind[2]:
        for place, slots in heads:
            for row, slot in zip(asked[place], slots):
                if slot[0] == "is":
                    row.append(slot[1])
    return asked


def in_order(worths):
    """Worths that are asked for, each once: numbers rising, then False, True."""
    if len(worths) == 0:
        return []
    numbers = sorted(set([worth for worth in worths if not isinstance(worth, bool)]))
    truths = [truth for truth in (False, True) if any([alike(worth, truth) for worth in worths])]
    return [*numbers, *truths]


def classes_by(rows):
    """The classes of a place with these constants, the first slot's worth changing last."""
    classes = [()]
    for constants in rows:
        classes = [(*row, part) for row in classes for part in [*constants, None]]
    return classes


def spot_in(grid, place, given):
    """The number of the spot of a letter at a place; None where there is no such place."""
    if place not in grid:
        return None
    first, rows = grid[place]
    number = 0
    for constants, worth in zip(rows, given):
        number = number * (len(constants) + 1) + rank_of(constants, worth)
    return first + number


def rank_of(constants, worth):
    """Which of a slot's constants a worth is; any other worth comes behind them all."""
    for at, constant in enumerate(constants):
        if alike(constant, worth):
            return at
    return len(constants)


def parted_in(kind, grid):
    """The parted rules of a kind."""
    return tuple([tuple([spots_taken(grid, head) for head in heads]) for heads, deeds in kind[2]])


def spots_taken(grid, head):
    """The numbers of the spots that a head takes: at each slot that asks for a worth those of just that worth."""
    place, slots = head
    first, rows = grid[place]
    numbers = [0]
    for constants, slot in zip(rows, slots):
        ranks = [rank_of(constants, slot[1])] if slot[0] == "is" else list(range(len(constants) + 1))
        numbers = [number * (len(constants) + 1) + rank for number in numbers for rank in ranks]
    return tuple([first + number for number in numbers])
