"""Keepers of lots: one is told each letter that comes to its lot, and tells whether it stays or which rule goes off."""

from waitedmeets.fewest import machine_by
from waitedmeets.lotmachines import MOST_IN_MACHINE
from waitedmeets.meetings import first_meeting
from waitedmeets.parting import MOST_SPOTS, grid_of, parted_in, spot_in
from waitedmeets.stillsets import Sieve, as_bits, stills_by


class Book:
    """What the keepers of a kind's lots go by; it is never changed, so that they share it.

    grid, parted and sieve are None of a kind with too many spots; machine and states of one with too many for those.
    """

    def __init__(self, kind):
        self.rules = kind[2]
        self.grid = None
        self.parted = None
        self.sieve = None
        self.machine = None
        self.states = None
        grid, many = grid_of(kind)
        if many <= MOST_SPOTS:
            self.grid = grid
            self.parted = parted_in(kind, grid)
            self.sieve = Sieve(self.parted, many)
        if many <= MOST_IN_MACHINE:
            self.machine, self.states = machine_by(self.sieve, stills_by(self.sieve))


class Keeper:
    """Keeps one lot: lying has the spots of the letters that lie there, by numbers; at is its machine's state."""

    def __init__(self, book):
        self.book = book
        self.lying = {}
        self.at = None
        if book.machine is not None:
            self.at = 0

    def meeting_by(self, letter, heap):
        """The rule that goes off by a letter that has come to the heap, and whom it takes; None where it stays."""
        if self.book.grid is None:
            return first_meeting(heap, self.book.rules)
        spot = spot_in(self.book.grid, letter[1], letter[2])
        rule = self.rule_by_letter(spot)
        self.lying[letter[0]] = spot
        if rule is None:
            return None
        letters = tuple([self.eldest_at(spots) for spots in self.book.parted[rule]])
        self.forget(letters)
        return (rule, letters)

    def rule_by_letter(self, spot):
        """The rule that goes off by a letter at a spot, or None; where it stays the machine goes on."""
        if self.book.machine is None:
            return self.book.sieve.rule_by(self.covered(), spot)
        word, there = self.book.machine[self.at][spot]
        if word == "goes":
            return there
        self.at = there
        return None

    def covered(self):
        """The bits of the heads that have letters."""
        bits = 0
        for number in self.lying:
            bits = bits | self.book.sieve.bits[self.lying[number]]
        return bits

    def eldest_at(self, spots):
        """The least number of the letters that lie at some of these spots."""
        return min([number for number in self.lying if self.lying[number] in spots])

    def forget(self, letters):
        """These letters are taken: what is left is part of what lay there still, so it is still."""
        self.lying = {number: self.lying[number] for number in self.lying if number not in letters}
        if self.book.machine is not None:
            self.at = self.book.states[as_bits(list(self.lying.values()))]

    def copied(self):
        """A keeper like it that goes on by itself."""
        other = Keeper(self.book)
        other.lying = dict(self.lying)
        other.at = self.at
        return other
