"""Where a lot is, and what a house has of lots that aren't there."""


class Site:
    """A lot's whereabouts: at a house, or away, on the way to it.

    maker is the house where it was made, moves how often it was moved, pile the letters that have come to it, in order.
    """

    def __init__(self, maker):
        self.maker = maker
        self.house = maker
        self.away = False
        self.moves = 0
        self.pile = []

    def is_at(self, house):
        """Whether the lot is at this house."""
        return not self.away and self.house == house

    def told(self):
        """Where it is, as it is told."""
        return ("way" if self.away else "at", self.house)

    def leave(self, house):
        """The lot goes on its way to a house."""
        self.house = house
        self.away = True
        self.moves += 1

    def copied(self):
        """A site like it that goes on by itself."""
        other = Site(self.maker)
        other.house = self.house
        other.away = self.away
        other.moves = self.moves
        other.pile = list(self.pile)
        return other


class House:
    """sent has, for each lot that was sent from here and isn't back, (house, count); queue the letters that wait here
    for their lots, as tuples (lot, letter), in the order in which they came."""

    def __init__(self):
        self.sent = {}
        self.queue = []

    def take_in(self, lot):
        """A lot is here: what was known of it is of a time that is over. Tells the letters that have waited for it."""
        self.sent = {other: self.sent[other] for other in self.sent if other != lot}
        letters = [letter for where, letter in self.queue if where == lot]
        self.queue = [(where, letter) for where, letter in self.queue if where != lot]
        return letters

    def copied(self):
        """A house like it that goes on by itself."""
        other = House()
        other.sent = dict(self.sent)
        other.queue = list(self.queue)
        return other
