"""Sets of spots, rising tuples of their numbers: which are still, and what comes of one more letter.

Rules are parted ones here: for each rule, for each head, the spots that it takes. Where many sets are gone through each
is kept as a number, too, with a bit for each of its spots.
"""

from waitedmeets.worths import is_number_below

# What stands in a row for a rule that goes off: this less the rule's number, below all that stands for a set or a lot.
GOES = -2


class Sieve:
    """Parted rules, for asking quickly which one can meet by one more letter.

    All heads of all rules have a bit each: bits has for each spot those of the heads that take it, rules_by for each
    spot the rules with such a head, in order, as tuples (rule, the bits of all of its heads).
    """

    def __init__(self, rules, many):
        self.bits = [0 for spot in range(many)]
        self.rules_by = [[] for spot in range(many)]
        bit = 1
        for number, heads in enumerate(rules):
            first = bit
            for head in heads:
                for spot in head:
                    self.bits[spot] = self.bits[spot] | bit
                bit = bit * 2
            for head in heads:
                for spot in head:
                    self.rules_by[spot].append((number, bit - first))

    def rule_by(self, covered, spot):
        """The first rule that can meet by a letter at a spot, where nothing could ahead of it; None where none can.

        covered are the bits of the heads that have letters already.
        """
        now = covered | self.bits[spot]
        for number, whole in self.rules_by[spot]:
            if now & whole == whole:
                return number
        return None


def is_set(thing, many):
    """Whether it is a set of some of so many spots, of anything."""
    if not isinstance(thing, tuple) or not all([is_number_below(spot, many) for spot in thing]):
        return False
    return all([spot < other for spot, other in zip(thing, thing[1:])])


def as_bits(spots):
    """A set of spots as a number."""
    mask = 0
    for spot in spots:
        mask = mask | 1 << spot
    return mask


def first_rule(rules, spots):
    """The number of the first rule that can meet where letters lie at these spots, or None."""
    for number, heads in enumerate(rules):
        if all([any([spot in head for spot in spots]) for head in heads]):
            return number
    return None


def stills_by(sieve):
    """All still sets, sorted by how many are in them, then as tuples: each with its number, and the heads it covers.

    Each still set is made of one with a spot less: what is part of a still set is still. So they come in that order.
    """
    found = []
    level = [((), 0, 0)]
    while len(level) > 0:
        found.extend(level)
        level = [still for smaller in level for still in grown_by(sieve, smaller)]
    return found


def grown_by(sieve, still):
    """The still sets with one more spot than this one, behind all of its own."""
    spots, mask, covered = still
    first = 0 if len(spots) == 0 else spots[-1] + 1
    further = [spot for spot in range(first, len(sieve.bits)) if sieve.rule_by(covered, spot) is None]
    return [((*spots, spot), mask | 1 << spot, covered | sieve.bits[spot]) for spot in further]


def row_of(sieve, still):
    """What comes of a letter at each spot: the number of the set behind it, or what stands for a rule that goes off."""
    spots, mask, covered = still
    row = []
    for spot in range(len(sieve.bits)):
        rule = None if spot in spots else sieve.rule_by(covered, spot)
        row.append(mask | 1 << spot if rule is None else GOES - rule)
    return row
