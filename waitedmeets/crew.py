"""Bodies, and the crew that they are.

A crew is what a stand and a world have in common: the kinds of the lots, the bodies, what was told, and the numbers
that come next. Where letters lie, and how answers come to their askers, is left to who has the crew.
"""

from waitedmeets.deeds import operands_of
from waitedmeets.doing import DOINGS, NOTHING
from waitedmeets.errors import NoBody, NoLot
from waitedmeets.programs import LEAST
from waitedmeets.worths import is_number_below, is_whole


class Body:
    """One that goes from deed to deed.

    todo are the deeds that are left; askers has for each place at which a letter was taken for it who asked by that
    letter, or None, and is never changed; answered are those of these places whose askers it has answered; goal is the
    name for which it waits, None where it doesn't wait.
    """

    def __init__(self, number, lot, worths, todo, askers):
        self.number = number
        self.lot = lot
        self.worths = worths
        self.todo = todo
        self.askers = askers
        self.answered = []
        self.goal = None

    def worth_of(self, operand):
        """The worth of an operand, None of a name without one."""
        if operand[0] == "is":
            return operand[1]
        if operand[0] == "own":
            return ("lot", self.lot)
        return self.worths.get(operand[1])

    def is_over(self):
        """Whether nothing is left for it, not even to wait."""
        return len(self.todo) == 0 and self.goal is None

    def copied(self):
        """A body like it that goes on by itself."""
        other = Body(self.number, self.lot, dict(self.worths), self.todo, self.askers)
        other.answered = list(self.answered)
        other.goal = self.goal
        return other

    def image(self):
        """A tuple that is the same for bodies that are alike, and for no others."""
        names = [(name, self.worths[name]) for name in sorted(self.worths)]
        asked = [(place, self.askers[place], place in self.answered) for place in sorted(self.askers)]
        return (self.number, self.lot, repr(self.todo), self.goal, repr(names), repr(asked))


class Crew:
    """The bodies of a program, and what they have made and told."""

    def __init__(self, program):
        self.program = program
        # Not made ahead of when it is asked for, as it takes long, and most are never compared.
        self.program_text = None
        self.kinds = {kind[0]: kind for kind in program[0]}
        self.lot_kinds = []
        self.working = {}
        self.noted = []
        self.failed = []
        self.next_letter = 0
        self.next_body = 0
        self.begin(None, {}, program[1], {})

    def begin(self, lot, worths, todo, askers):
        """A new body's number; None where it would have nothing to do, and so isn't there."""
        if len(todo) == 0:
            return None
        number = self.next_body
        self.next_body += 1
        self.working[number] = Body(number, lot, worths, todo, askers)
        return number

    def new_lot(self, kind):
        """The worth of one more lot."""
        self.lot_kinds.append(kind)
        return ("lot", len(self.lot_kinds) - 1)

    def new_letter(self, place, given, asker):
        """One more letter."""
        letter = (self.next_letter, place, tuple(given), asker)
        self.next_letter += 1
        return letter

    def carried_at(self, lot, place):
        """How many things letters at a place of a lot carry; None where its kind has no such place."""
        for word, many in self.kinds[self.lot_kinds[lot]][1]:
            if word == place:
                return many
        return None

    def rules_at(self, lot):
        """The rules of a lot."""
        return self.kinds[self.lot_kinds[lot]][2]

    def look_at_lot(self, thing):
        """NoLot of anything that is no number of a lot."""
        if not is_number_below(thing, len(self.lot_kinds)):
            raise NoLot(thing)

    def look_at_body(self, thing):
        """NoBody of anything that is no number of a body that is there."""
        if not is_whole(thing) or thing not in self.working:
            raise NoBody(thing)

    def can_go(self, thing):
        """Whether it is the number of a body that can go on, of anything."""
        return is_whole(thing) and thing in self.working and self.working[thing].goal is None

    def goers(self):
        """The numbers of the bodies that can go on, rising."""
        return [number for number in sorted(self.working) if self.can_go(number)]

    def rows(self):
        """The bodies as they are told, rising."""
        bodies = [self.working[number] for number in sorted(self.working)]
        return [(body.number, body.lot, len(body.todo), body.goal is not None) for body in bodies]

    def do_deed(self, number):
        """Does the next deed of a body; tells the letter or the answer that comes of it, or NOTHING."""
        body = self.working[number]
        deed = body.todo[0]
        body.todo = body.todo[1:]
        told = self.told_by(body, deed)
        if told[0] == "fault":
            self.failed.append((number, told[1]))
            del self.working[number]
            return NOTHING
        if body.is_over():
            del self.working[number]
        return told

    def told_by(self, body, deed):
        """What a deed of a body tells; unset goes ahead of all that the deed itself would tell."""
        worths = [body.worth_of(operand) for operand in operands_of(deed)]
        if None in worths:
            return ("fault", "unset")
        doing = DOINGS[deed[0]]
        return doing(self, body, deed, worths)

    def give_answer(self, number, worth):
        """The body that has waited for this worth goes on."""
        body = self.working[number]
        body.worths[body.goal] = worth
        body.goal = None
        if body.is_over():
            del self.working[number]

    def text_of_program(self):
        """A text that is the same for the same program, and for no other: in it True is not 1."""
        if self.program_text is None:
            return repr(self.program)
        return self.program_text

    def keep_text(self):
        """The program's text is made once for all that ask from now on, twins too."""
        self.program_text = self.text_of_program()

    def copied(self):
        """A crew like it that goes on by itself."""
        self.keep_text()
        other = Crew(LEAST)
        other.program = self.program
        other.program_text = self.program_text
        other.kinds = self.kinds
        other.lot_kinds = list(self.lot_kinds)
        other.working = {number: self.working[number].copied() for number in self.working}
        other.noted = list(self.noted)
        other.failed = list(self.failed)
        other.next_letter = self.next_letter
        other.next_body = self.next_body
        return other

    def image(self):
        """A tuple that is the same for crews that are alike, and for no others.

        Worths stand in it as texts: Python takes True and 1 for the same.
        """
        bodies = [self.working[number].image() for number in sorted(self.working)]
        numbers = (self.next_letter, self.next_body)
        told = (tuple(self.lot_kinds), repr(self.noted), tuple(self.failed))
        return (self.text_of_program(), told, tuple(bodies), numbers)
