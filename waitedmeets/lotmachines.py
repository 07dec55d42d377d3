"""Machines of lots: for each letter that comes, whether it stays or which rule goes off."""

from waitedmeets.deeds import is_tuple_of
from waitedmeets.errors import NoSet, NoState
from waitedmeets.fewest import machine_by
from waitedmeets.parting import parted_in, parted_kind
from waitedmeets.stillsets import GOES, Sieve, as_bits, first_rule, is_set, row_of, stills_by
from waitedmeets.worths import is_number_below, is_whole, says

MOST_IN_MACHINE = 10


def rule_of(program, name, spots):
    """The number of the first rule that can meet where a set of spots lies, or None; NoSet of no set."""
    rules, many = few_spots(program, name)
    return rule_at(rules, many, spots)


def is_still(program, name, spots):
    """Whether no rule can meet where a set of spots lies; NoSet of no set."""
    return rule_of(program, name, spots) is None


def still_sets(program, name):
    """All still sets, sorted by how many spots are in them, then as tuples."""
    rules, many = few_spots(program, name)
    return [spots for spots, mask, covered in stills_by(Sieve(rules, many))]


def machine_of(program, name):
    """The machine of a kind, with the fewest states."""
    rules, many = few_spots(program, name)
    sieve = Sieve(rules, many)
    machine, states = machine_by(sieve, stills_by(sieve))
    return machine


def state_of(program, name, spots):
    """The number of the state of a still set; NoSet of all else."""
    rules, many = few_spots(program, name)
    if rule_at(rules, many, spots) is not None:
        raise NoSet(spots)
    sieve = Sieve(rules, many)
    machine, states = machine_by(sieve, stills_by(sieve))
    return states[as_bits(spots)]


def row_parting(program, name, one, other):
    """The shortest row of spots, of these the first, that parts two states; None of the same one."""
    machine = machine_of(program, name)
    for state in (one, other):
        if not is_number_below(state, len(machine)):
            raise NoState(state)
    if one == other:
        return None
    return first_parting(machine, one, other)


def paper_of(program, name):
    """The paper of the made machine: each still set, in order, with its state."""
    rules, many = few_spots(program, name)
    sieve = Sieve(rules, many)
    stills = stills_by(sieve)
    machine, states = machine_by(sieve, stills)
    return [(spots, states[mask]) for spots, mask, covered in stills]


def lets_machine(program, name, machine, paper):
    """Whether a machine with its paper tells for each still set what comes of each letter; of anything."""
    rules, many = few_spots(program, name)
    if not is_machine(machine, rules, many):
        return False
    sieve = Sieve(rules, many)
    stills = stills_by(sieve)
    if not is_paper(paper, [still[0] for still in stills], len(machine)):
        return False
    states = {still[1]: row[1] for still, row in zip(stills, paper)}
    if states[0] != 0:
        return False
    return all([machine[states[still[1]]] == row_wanted(row_of(sieve, still), states) for still in stills])


def row_wanted(row, states):
    """What a state's row has to tell, where the sets have these states."""
    return tuple([("stays", states[there]) if there >= 0 else ("goes", GOES - there) for there in row])


def rule_at(rules, many, spots):
    """The first rule that can meet where one of the sets of so many spots lies, or None; NoSet of anything else."""
    if not is_set(spots, many):
        raise NoSet(spots)
    return first_rule(rules, spots)


def few_spots(program, name):
    """The parted rules of a kind and how many spots it has; TooMany where no machine is made of so many."""
    kind, grid, many = parted_kind(program, name, MOST_IN_MACHINE)
    return parted_in(kind, grid), many


def first_parting(machine, one, other):
    """The first row by which two unlike states of a machine with the fewest states are parted.

    Pairs are gone through as they are come to, so that no shorter row, and none that stands ahead, is missed.
    """
    rows = {(one, other): ()}
    pairs = [(one, other)]
    at = 0
    while at < len(pairs):
        left, right = pairs[at]
        ahead = rows[(left, right)]
        for spot, (entry, beside) in enumerate(zip(machine[left], machine[right])):
            row = (*ahead, spot)
            if entry != beside and "goes" in (entry[0], beside[0]):
                return row
            pair = (entry[1], beside[1])
            if entry[0] == "stays" and pair not in rows:
                rows[pair] = row
                pairs.append(pair)
        at += 1
    return None


def is_machine(thing, rules, many):
    """Whether it is a tuple of rows with an entry for each spot, whatever these tell."""
    if not isinstance(thing, tuple):
        return False
    return all([is_row(row, len(rules), many, len(thing)) for row in thing])


def is_row(thing, rules, many, states):
    """Whether it has an entry for each of so many spots, of rules and states that are there."""
    if not is_tuple_of(thing, many, many):
        return False
    return all([is_entry(entry, rules, states) for entry in thing])


def is_entry(thing, rules, states):
    """Whether it tells a state or a rule that is there."""
    if not is_tuple_of(thing, 2, 2):
        return False
    if says(thing[0], "stays"):
        return is_number_below(thing[1], states)
    return says(thing[0], "goes") and is_number_below(thing[1], rules)


def is_paper(thing, sets, states):
    """Whether it is a list of just these sets, in order, with states that are there."""
    if not isinstance(thing, list) or len(thing) != len(sets):
        return False
    return all([is_paper_row(row, spots, states) for row, spots in zip(thing, sets)])


def is_paper_row(thing, spots, states):
    """Whether it is this set with a state that is there."""
    if not is_tuple_of(thing, 2, 2) or not is_tuple_of(thing[0], len(spots), len(spots)):
        return False
    # Asked of each number by itself, as True would be taken for 1.
    if not all([is_whole(number) and number == spot for number, spot in zip(thing[0], spots)]):
        return False
    return is_number_below(thing[1], states)
