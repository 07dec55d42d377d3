"""The fewest states: still sets are put together where no row of letters tells them apart.

Entries are those of stillsets: for each still set what comes of a letter at each spot.
"""


def machine_in(entries):
    """The machine, and a dict with the state of each still set."""
    lots = lots_alike(entries)
    order = order_met(entries, lots)
    numbers = {lots[spots]: number for number, spots in enumerate(order)}
    states = {spots: numbers[lots[spots]] for spots in entries}
    return tuple([row_by(entries[spots], states) for spots in order]), states


def row_by(row, numbers):
    """A set's row of entries with, for the sets behind, the numbers that stand for them."""
    return tuple([(word, numbers[there] if word == "stays" else there) for word, there in row])


def lots_alike(entries):
    """A dict from still sets to numbers, the same for those that are alike.

    At first all count as alike; those told apart by one letter more are parted, till none is any more.
    """
    lots = {spots: 0 for spots in entries}
    many = 0
    while many < len(set(list(lots.values()))):
        many = len(set(list(lots.values())))
        lots = parted_further(entries, lots)
    return lots


def parted_further(entries, lots):
    """The sets put together anew, by their rows of entries."""
    numbers = {}
    told = {}
    for spots in entries:
        row = row_by(entries[spots], lots)
        told[spots] = numbers.setdefault(row, len(numbers))
    return told


def order_met(entries, lots):
    """Of each lot of alike sets one, in the order in which they are come to, state by state, spot by spot."""
    order = [()]
    met = {lots[()]: True}
    at = 0
    while at < len(order):
        row = entries[order[at]]
        for word, there in row:
            if word == "stays" and lots[there] not in met:
                met[lots[there]] = True
                order.append(there)
        at += 1
    return order
