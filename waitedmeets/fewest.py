"""The fewest states: still sets are put together where no row of letters tells them apart."""

from waitedmeets.stillsets import GOES, row_of

# What stands in a lot's row for the lot itself.
HERE = -1


def machine_by(sieve, stills):
    """The machine, and a dict with the state of each still set, by its number."""
    lots, rows = lots_alike(sieve, stills)
    order = order_met(rows, lots[0])
    numbers = {lot: number for number, lot in enumerate(order)}
    machine = tuple([tuple([entry_by(entry, lot, numbers) for entry in rows[lot]]) for lot in order])
    return machine, {mask: numbers[lots[mask]] for mask in lots}


def entry_by(entry, lot, numbers):
    """What a machine tells for an entry of a lot's row."""
    if entry <= GOES:
        return ("goes", GOES - entry)
    return ("stays", numbers[lot if entry == HERE else entry])


def lots_alike(sieve, stills):
    """A dict from still sets, by their numbers, to lots of alike ones, and a list of these lots' rows.

    The greatest sets come first: so the lot of each set that a letter leads to is known, but for the set's own.
    """
    lots = {}
    numbers = {}
    for still in reversed(stills):
        mask = still[1]
        row = [HERE if there == mask else lots.get(there, there) for there in row_of(sieve, still)]
        lots[mask] = lot_by(row, numbers)
    return lots, list(numbers)


def lot_by(row, numbers):
    """The lot that has this row, a new one where there is none.

    A set may also be alike to one that a letter leads to: then its row tells that lot where the lot's tells itself.
    """
    for lot in [HERE, *sorted(set([entry for entry in row if entry > HERE]))]:
        found = numbers.get(tuple([HERE if entry == lot else entry for entry in row]))
        if found is not None and lot in (HERE, found):
            return found
    return numbers.setdefault(tuple(row), len(numbers))


def order_met(rows, first):
    """The lots in the order in which they are come to, row by row, spot by spot."""
    order = [first]
    met = {first: True}
    at = 0
    while at < len(order):
        row = rows[order[at]]
        for lot in row:
            if lot > HERE and lot not in met:
                met[lot] = True
                order.append(lot)
        at += 1
    return order
