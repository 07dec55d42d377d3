"""Programs called otherwise: kinds, places and names by other words, and the worths of such a program."""

from waitedmeets.deeds import PARTS, is_named, operands_of
from waitedmeets.errors import NoNames
from waitedmeets.programs import are_unlike, look_at_program, names_in
from waitedmeets.worths import is_place, is_word

# The parts of deeds that are words of places or names.
WORDED = ("name", "own place", "head")


class Callings:
    """Dicts by which all kinds, and all words of places and names, of a program are called."""

    def __init__(self, kinds, words):
        self.kinds = kinds
        self.words = words

    def kind_called(self, kind):
        """A kind with its name, places and rules so called."""
        name, places, rules = kind
        rows = tuple([(self.words[word], many) for word, many in places])
        return (self.kinds[name], rows, tuple([self.rule_called(rule) for rule in rules]))

    def rule_called(self, rule):
        """A rule with its heads and deeds so called."""
        heads, deeds = rule
        return (tuple([self.head_called(head) for head in heads]), self.deeds_called(deeds))

    def head_called(self, head):
        """A head with its place and the names of its slots so called."""
        place, slots = head
        return (self.words[place], tuple([self.piece_called(slot) for slot in slots]))

    def deeds_called(self, deeds):
        """Deeds with all that they name so called."""
        return tuple([self.deed_called(deed) for deed in deeds])

    def deed_called(self, deed):
        """A deed with all that it names so called."""
        parts = PARTS[deed[0]]
        return (deed[0], *[self.part_called(part, thing) for part, thing in zip(parts, deed[1:])])

    def part_called(self, part, thing):
        """A part of a deed so called; numbers and the words of reckoning stay."""
        if part == "operand":
            return self.piece_called(thing)
        if part == "given":
            return tuple([self.piece_called(operand) for operand in thing])
        if part == "kind":
            return self.kinds[thing]
        if part in WORDED:
            return self.words[thing]
        return thing

    def piece_called(self, piece):
        """An operand or a slot: its name, if it has one, so called."""
        if piece[0] in ("of", "as"):
            return (piece[0], self.words[piece[1]])
        return piece


def called(program, *, kinds=None, words=None):
    """The program with its kinds, and with its places and names, called by other words."""
    look_at_program(program)
    rows, main = program
    callings = Callings(calling_by(kinds, [kind[0] for kind in rows]), calling_by(words, words_in(program)))
    return (tuple([callings.kind_called(kind) for kind in rows]), callings.deeds_called(main))


def worth_called(worth, words):
    """A worth of a program whose words are so called; only places have one."""
    if words is None or not is_place(worth):
        return worth
    tag, lot, word = worth
    return (tag, lot, words.get(word, word))


def calling_by(thing, words):
    """How all of these words are called by a dict that was handed in, those left out staying; None is an empty one.

    NoNames of anything else, and where two would be called alike.
    """
    if thing is None:
        return {word: word for word in words}
    if not isinstance(thing, dict):
        raise NoNames(thing)
    if not all([is_named(key, words) and is_word(thing[key]) for key in thing]):
        raise NoNames(thing)
    told = {word: thing.get(word, word) for word in words}
    if not are_unlike(list(told.values())):
        raise NoNames(thing)
    return told


def words_in(program):
    """The words of all places and names of a program; some stand there more than once."""
    kinds, main = program
    rules = [rule for kind in kinds for rule in kind[2]]
    deeds = [deed for rule in rules for deed in rule[1]]
    words = [word for kind in kinds for word, many in kind[1]]
    words.extend([name for rule in rules for name in names_in(rule[0])])
    words.extend([word for deed in [*deeds, *main] for word in words_by(deed)])
    return words


def words_by(deed):
    """The words of places and names in a deed: also of a place that no kind has, as another may not be called so."""
    words = [thing for part, thing in zip(PARTS[deed[0]], deed[1:]) if part in WORDED]
    return [*words, *[operand[1] for operand in operands_of(deed) if operand[0] == "of"]]
