"""The plain reading: heaps of letters, rules that take them, and bodies that go on with what they carry."""

from waitedmeets.crew import Crew
from waitedmeets.errors import NoStep
from waitedmeets.meetings import begin_met, choices, is_choice, without
from waitedmeets.programs import LEAST, look_at_program
from waitedmeets.worths import is_whole


class Stand:
    """Where a program stands behind some steps.

    fresh is the lot to which a letter came by the last step, None where none came by it.
    """

    def __init__(self, program):
        look_at_program(program)
        self.crew = Crew(program)
        self.heaps = []
        self.past = []
        self.fresh = None

    def steps(self):
        """All steps that can be done: goes by bodies, then meets, sorted."""
        rows = [("go", body) for body in self.crew.goers()]
        for lot, heap in enumerate(self.heaps):
            for rule, (heads, deeds) in enumerate(self.crew.rules_at(lot)):
                rows.extend([("meet", lot, rule, letters) for letters in choices(heap, heads)])
        return rows

    def do(self, step):
        """Does a step; NoStep of anything that is none here."""
        if is_go(step) and self.crew.can_go(step[1]):
            self.do_go(step[1])
        elif is_meet(step) and self.can_meet(step[1], step[2], step[3]):
            self.do_meet(step[1], step[2], step[3])
        else:
            raise NoStep("no step that can be done here")

    def do_go(self, body):
        """The next deed of a body that can go."""
        self.past.append(("go", body))
        told = self.crew.do_deed(body)
        while len(self.heaps) < len(self.crew.lot_kinds):
            self.heaps.append([])
        self.fresh = None
        if told[0] == "letter":
            self.heaps[told[1]].append(told[2])
            self.fresh = told[1]
        if told[0] == "answer":
            self.crew.give_answer(told[1], told[2])

    def can_meet(self, lot, rule, letters):
        """Whether letters of these numbers can meet by a rule of a lot, all being whole numbers."""
        if not 0 <= lot < len(self.heaps) or not 0 <= rule < len(self.crew.rules_at(lot)):
            return False
        return is_choice(self.heaps[lot], self.crew.rules_at(lot)[rule][0], letters)

    def do_meet(self, lot, rule, letters):
        """The letters, which can meet, go, and a body comes."""
        self.past.append(("meet", lot, rule, letters))
        heap = self.heaps[lot]
        begin_met(self.crew, lot, rule, heap, letters)
        self.heaps[lot] = without(heap, letters)
        self.fresh = None

    def lots(self):
        """The names of the lots' kinds."""
        return list(self.crew.lot_kinds)

    def heap(self, lot):
        """The letters that lie at a lot, as they came."""
        self.crew.look_at_lot(lot)
        return list(self.heaps[lot])

    def bodies(self):
        """The bodies, rising: number, lot, how many deeds are left, whether it waits."""
        return self.crew.rows()

    def names(self, body):
        """The names of a body with their worths."""
        self.crew.look_at_body(body)
        return dict(self.crew.working[body].worths)

    def notes(self):
        """The worths that were noted."""
        return list(self.crew.noted)

    def faults(self):
        """The faults: body and word."""
        return list(self.crew.failed)

    def done(self):
        """All steps that were done."""
        return list(self.past)

    def twin(self):
        """A stand like it that goes on by itself."""
        other = Stand(LEAST)
        other.crew = self.crew.copied()
        other.heaps = [list(heap) for heap in self.heaps]
        other.past = list(self.past)
        other.fresh = self.fresh
        return other

    def seen(self):
        """A tuple that is the same for stands that are alike, and for no others."""
        self.crew.keep_text()
        return self.image()

    def image(self):
        """What seen tells, where nothing is kept for the next time."""
        return (self.crew.image(), repr(self.heaps))

    def __len__(self):
        return len(self.past)

    def __eq__(self, other):
        return isinstance(other, Stand) and self.image() == other.image()


def is_go(thing):
    """Whether it has the form of the step of a body."""
    return isinstance(thing, tuple) and len(thing) == 2 and thing[0] == "go"


def is_meet(thing):
    """Whether it has the form of a meeting, with whole numbers all through."""
    if not isinstance(thing, tuple) or len(thing) != 4 or thing[0] != "meet":
        return False
    if not is_whole(thing[1]) or not is_whole(thing[2]) or not isinstance(thing[3], tuple):
        return False
    return all([is_whole(number) for number in thing[3]])
