"""Keepers of lots: one is told each letter that comes to its lot, and tells whether it stays or which rule goes off."""

from waitedmeets.fewest import machine_in
from waitedmeets.lotmachines import MOST_IN_MACHINE
from waitedmeets.meetings import first_meeting
from waitedmeets.parting import MOST_SPOTS, count_spots, parted_in, spot_among, spots_in
from waitedmeets.stillsets import entries_of, first_rule


class Book:
    """What the keepers of a kind's lots go by; it is never changed, so that they share it.

    spots and parted are None of a kind with too many spots, machine and states of one with too many for a machine.
    """

    def __init__(self, kind):
        many = count_spots(kind)
        self.rules = kind[2]
        self.spots = None
        self.parted = None
        self.machine = None
        self.states = None
        if many <= MOST_SPOTS:
            self.spots = spots_in(kind)
            self.parted = parted_in(kind)
        if many <= MOST_IN_MACHINE:
            self.machine, self.states = machine_in(entries_of(self.parted, many))


class Keeper:
    """Keeps one lot: lying has the spots of the letters that lie there, by numbers; at is its machine's state."""

    def __init__(self, book):
        self.book = book
        self.lying = {}
        self.at = None
        if book.machine is not None:
            self.at = 0

    def meeting_by(self, letter, heap):
        """The rule that goes off by a letter that has come to the heap, and whom it takes; None where it stays."""
        if self.book.spots is None:
            return first_meeting(heap, self.book.rules)
        spot = spot_among(self.book.spots, letter[1], letter[2])
        self.lying[letter[0]] = spot
        rule = self.rule_by(spot)
        if rule is None:
            return None
        letters = tuple([self.eldest_at(spots) for spots in self.book.parted[rule]])
        self.forget(letters)
        return (rule, letters)

    def rule_by(self, spot):
        """The rule that goes off by a letter at a spot, or None; where it stays the machine goes on."""
        if self.book.machine is None:
            return first_rule(self.book.parted, self.spots_lying())
        word, there = self.book.machine[self.at][spot]
        if word == "goes":
            return there
        self.at = there
        return None

    def eldest_at(self, spots):
        """The least number of the letters that lie at some of these spots."""
        return min([number for number in self.lying if self.lying[number] in spots])

    def spots_lying(self):
        """The set of spots at which letters lie."""
        return tuple(sorted(set(list(self.lying.values()))))

    def forget(self, letters):
        """These letters are taken: what is left is part of what lay there still, so it is still."""
        self.lying = {number: self.lying[number] for number in self.lying if number not in letters}
        if self.book.machine is not None:
            self.at = self.book.states[self.spots_lying()]

    def copied(self):
        """A keeper like it that goes on by itself."""
        other = Keeper(self.book)
        other.lying = dict(self.lying)
        other.at = self.at
        return other
