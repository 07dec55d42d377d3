"""The runner: bodies go one step at a time, and at each lot a machine tells which rule goes off."""

from waitedmeets.errors import NoBody, NoRun
from waitedmeets.keepers import Book, Keeper
from waitedmeets.programs import LEAST
from waitedmeets.runs import chooses
from waitedmeets.stands import Stand


class Runner:
    """A program that goes as it is woven: by which bodies go, one behind the other.

    plain is the plain reading of its run; which letters meet in it is told by the lots' keepers alone. books has those
    of the kinds of which there is a lot.
    """

    def __init__(self, program):
        self.plain = Stand(program)
        self.books = {}
        self.keepers = []
        self.went = []

    def go(self, body):
        """A body's next deed, and the rule that goes off by it; NoBody of anything that can't go."""
        if not self.plain.crew.can_go(body):
            raise NoBody(body)
        self.plain.do_go(body)
        self.went.append(body)
        self.keep_new_lots()
        if self.plain.fresh is not None:
            self.letter_came(self.plain.fresh)

    def keep_new_lots(self):
        """Each lot has a keeper, from when it is made."""
        made = self.plain.crew.lot_kinds
        while len(self.keepers) < len(made):
            self.keepers.append(Keeper(self.book_of(made[len(self.keepers)])))

    def book_of(self, name):
        """The book of a kind, made for its first lot."""
        if name not in self.books:
            self.books[name] = Book(self.plain.crew.kinds[name])
        return self.books[name]

    def letter_came(self, lot):
        """The last letter of a lot's heap has just come."""
        heap = self.plain.heaps[lot]
        meeting = self.keepers[lot].meeting_by(heap[-1], heap)
        if meeting is not None:
            rule, letters = meeting
            self.plain.do_meet(lot, rule, letters)

    def weave(self, bodies):
        """These bodies go, one behind the other, up to the first that can't; NoBody of it."""
        for body in list(bodies):
            self.go(body)

    def ready(self):
        """The bodies that can go, rising."""
        return self.plain.crew.goers()

    def weaving(self):
        """The bodies that went."""
        return list(self.went)

    def run(self):
        """The steps of the plain reading that were done by them."""
        return self.plain.done()

    def lots(self):
        """The names of the lots' kinds."""
        return self.plain.lots()

    def heap(self, lot):
        """The letters that lie at a lot, as they came."""
        return self.plain.heap(lot)

    def bodies(self):
        """The bodies, rising: number, lot, how many deeds are left, whether it waits."""
        return self.plain.bodies()

    def names(self, body):
        """The names of a body with their worths."""
        return self.plain.names(body)

    def notes(self):
        """The worths that were noted."""
        return self.plain.notes()

    def faults(self):
        """The faults: body and word."""
        return self.plain.faults()

    def state(self, lot):
        """The state of a lot's machine; None of a kind without one."""
        self.plain.crew.look_at_lot(lot)
        return self.keepers[lot].at

    def is_over(self):
        """Whether no body can go."""
        return len(self.ready()) == 0

    def left(self):
        """The letters that lie, as tuples (lot, letter), and the bodies that wait."""
        letters = [(lot, letter) for lot, heap in enumerate(self.plain.heaps) for letter in heap]
        waiting = [number for number, lot, many, waits in self.bodies() if waits]
        return (letters, waiting)

    def stand(self):
        """A stand behind its run."""
        return self.plain.twin()

    def twin(self):
        """A runner like it that goes on by itself."""
        other = Runner(LEAST)
        other.plain = self.plain.twin()
        # Shared, as a book hangs on its kind alone: whoever makes it first makes it for both.
        other.books = self.books
        other.keepers = [keeper.copied() for keeper in self.keepers]
        other.went = list(self.went)
        return other

    def seen(self):
        """A tuple that is the same for runners whose stands are alike, and for no others."""
        return self.plain.seen()

    def __len__(self):
        return len(self.went)


def weaving_of(program, run):
    """The bodies of the goes of a run that chooses; NoRun of all else."""
    if not chooses(program, run):
        raise NoRun(None)
    return [step[1] for step in run if step[0] == "go"]
