"""Lots at several houses, moved with their letters; letters, answers and lots go by post."""

from waitedmeets.bounds import look_at_number
from waitedmeets.crew import Crew
from waitedmeets.errors import NoHouse, NoStep
from waitedmeets.meetings import begin_met, first_meeting, without
from waitedmeets.programs import LEAST, look_at_program
from waitedmeets.sites import House, Site
from waitedmeets.worths import is_number_below, is_whole, says

MOST_HOUSES = 4


class World:
    """A program at some houses.

    lodging has the houses of bodies, those of gone ones too; parcels have, by numbers, what is told of a parcel and
    what it carries: a letter, an answer's worth, or None of a lot.
    """

    def __init__(self, program, *, houses=2):
        look_at_program(program)
        look_at_number(houses, 1, MOST_HOUSES)
        self.crew = Crew(program)
        self.lodging = {body: 0 for body in self.crew.working}
        self.sites = []
        self.town = [House() for number in range(houses)]
        self.parcels = {}
        self.next_parcel = 0
        self.plain_run = []
        self.past = []

    def do(self, step):
        """Does a step; NoStep of anything that can't be done."""
        if not self.can_do(step):
            raise NoStep("no step that can be done here")
        if step[0] == "go":
            self.do_go(step[1])
        elif step[0] == "come":
            self.do_come(step[1])
        else:
            self.do_move(step[1], step[2])
        self.past.append(step)

    def can_do(self, thing):
        """Whether it is a step that can be done, of anything."""
        if not isinstance(thing, tuple) or not all([is_whole(number) for number in thing[1:]]):
            return False
        if len(thing) == 2 and says(thing[0], "go"):
            return self.crew.can_go(thing[1])
        if len(thing) == 2 and says(thing[0], "come"):
            return thing[1] in self.parcels
        return len(thing) == 3 and says(thing[0], "move") and self.can_move(thing[1], thing[2])

    def can_move(self, lot, house):
        """Whether there is such a lot, at another house than this one."""
        if not 0 <= lot < len(self.sites) or not 0 <= house < len(self.town):
            return False
        return not self.sites[lot].away and self.sites[lot].house != house

    def do_go(self, body):
        """The next deed of a body, and what comes of it at its house."""
        house = self.lodging[body]
        self.plain_run.append(("go", body))
        told = self.crew.do_deed(body)
        while len(self.sites) < len(self.crew.lot_kinds):
            self.sites.append(Site(house))
        if told[0] == "letter":
            self.lay_letter(house, told[1], told[2])
        if told[0] == "answer":
            self.send_answer(house, told[1], told[2])

    def do_come(self, number):
        """A parcel comes to its house."""
        row, load = self.parcels.pop(number)
        if row[0] == "letter":
            self.letter_comes(row[3], row[2], load, row[4])
        elif row[0] == "answer":
            self.crew.give_answer(row[1], load)
        else:
            self.lot_comes(row[2], row[1])

    def do_move(self, lot, house):
        """A lot goes, with all that lies at it."""
        site = self.sites[lot]
        ahead = self.town[site.house]
        site.leave(house)
        ahead.sent[lot] = (house, site.moves)
        self.send(("lot", lot, house, site.moves), None)

    def send(self, row, load):
        """One more parcel."""
        self.parcels[self.next_parcel] = (row, load)
        self.next_parcel += 1

    def lay_letter(self, house, lot, letter):
        """A body at this house has laid a letter."""
        site = self.sites[lot]
        if site.is_at(house):
            self.letter_lies(lot, letter)
        else:
            there, count = self.town[house].sent.get(lot, (site.maker, 0))
            self.send(("letter", letter[0], lot, there, count), letter)

    def send_answer(self, house, asker, worth):
        """A body at this house has answered."""
        there = self.lodging[asker]
        if there == house:
            self.crew.give_answer(asker, worth)
        else:
            self.send(("answer", asker, there), worth)

    def letter_comes(self, house, lot, letter, count):
        """A letter's parcel has come to a house, where the lot is, or was, or will be."""
        there, known = self.town[house].sent.get(lot, (house, 0))
        if self.sites[lot].is_at(house):
            self.letter_lies(lot, letter)
        elif known > count:
            self.send(("letter", letter[0], lot, there, known), letter)
        else:
            self.town[house].queue.append((lot, letter))

    def lot_comes(self, house, lot):
        """A lot has come to a house, and then the letters that waited for it there."""
        self.sites[lot].away = False
        letters = self.town[house].take_in(lot)
        for letter in letters:
            self.letter_lies(lot, letter)

    def letter_lies(self, lot, letter):
        """A letter has come to a lot that is at a house; the first rule that then can goes off."""
        site = self.sites[lot]
        site.pile.append(letter)
        meeting = first_meeting(site.pile, self.crew.rules_at(lot))
        if meeting is None:
            return
        rule, letters = meeting
        self.plain_run.append(("meet", lot, rule, letters))
        body = begin_met(self.crew, lot, rule, site.pile, letters)
        site.pile = without(site.pile, letters)
        if body is not None:
            self.lodging[body] = site.house

    def steps(self):
        """All steps that can be done: goes by bodies, comes by parcels, moves by lots, then houses."""
        goes = [("go", body) for body in self.crew.goers()]
        comes = [("come", number) for number in sorted(self.parcels)]
        pairs = [(lot, house) for lot in range(len(self.sites)) for house in range(len(self.town))]
        moves = [("move", lot, house) for lot, house in pairs if self.can_move(lot, house)]
        return goes + comes + moves

    def run(self):
        """The plain run: each go, and each meeting where it was."""
        return list(self.plain_run)

    def waiting(self, house):
        """The numbers of the letters that wait at a house, as they came."""
        self.look_at_house(house)
        return [letter[0] for lot, letter in self.town[house].queue]

    def heap(self, lot):
        """The letters that have come to a lot, in that order."""
        self.crew.look_at_lot(lot)
        return list(self.sites[lot].pile)

    def lots(self):
        """The names of the lots' kinds."""
        return list(self.crew.lot_kinds)

    def bodies(self):
        """The bodies, rising: number, lot, how many deeds are left, whether it waits."""
        return self.crew.rows()

    def notes(self):
        """The worths that were noted."""
        return list(self.crew.noted)

    def faults(self):
        """The faults: body and word."""
        return list(self.crew.failed)

    def where(self, lot):
        """Where a lot is: ("at", house) or ("way", house)."""
        self.crew.look_at_lot(lot)
        return self.sites[lot].told()

    def knows(self, house, lot):
        """What a house knows of a lot: None, ("here",), or whereto it was sent and by which move."""
        self.look_at_house(house)
        self.crew.look_at_lot(lot)
        if self.sites[lot].is_at(house):
            return ("here",)
        return self.town[house].sent.get(lot)

    def post(self):
        """The parcels that are on the way, by numbers, rising."""
        return {number: self.parcels[number][0] for number in sorted(self.parcels)}

    def house_of(self, body):
        """The house of a body."""
        self.crew.look_at_body(body)
        return self.lodging[body]

    def look_at_house(self, thing):
        """NoHouse of anything that is no number of a house."""
        if not is_number_below(thing, len(self.town)):
            raise NoHouse(thing)

    def home(self):
        """Lets parcels come, the least first, till none is on the way; tells how many came."""
        many = 0
        while len(self.parcels) > 0:
            self.do(("come", sorted(self.parcels)[0]))
            many += 1
        return many

    def twin(self):
        """A world like it that goes on by itself."""
        other = World(LEAST)
        other.crew = self.crew.copied()
        other.lodging = dict(self.lodging)
        other.sites = [site.copied() for site in self.sites]
        other.town = [house.copied() for house in self.town]
        other.parcels = dict(self.parcels)
        other.next_parcel = self.next_parcel
        other.plain_run = list(self.plain_run)
        other.past = list(self.past)
        return other

    def image(self):
        """A tuple that is the same for worlds that are alike, and for no others.

        What parcels carry is left out: the program and the plain run tell it.
        """
        bodies = [(body, self.lodging[body]) for body in sorted(self.crew.working)]
        sites = [(site.maker, site.told(), site.pile) for site in self.sites]
        houses = [(sorted(list(house.sent.items())), house.queue) for house in self.town]
        rows = [(number, self.parcels[number][0]) for number in sorted(self.parcels)]
        return (self.crew.image(), repr(self.plain_run), repr((bodies, sites, houses, rows)), self.next_parcel)

    def __len__(self):
        return len(self.past)

    def __eq__(self, other):
        return isinstance(other, World) and self.image() == other.image()
