"""Deeds and their operands: what is one, and what is none."""

from waitedmeets.worths import WORDS, is_whole, is_word, is_written

MOST_GIVEN = 3

# Of what a deed is made behind its first word.
PARTS = {
    "set": ("name", "operand"),
    "let": ("name", "word", "operand", "operand"),
    "note": ("operand",),
    "make": ("name", "kind"),
    "place": ("name", "operand", "name"),
    "lay": ("operand", "given"),
    "put": ("own place", "given"),
    "call": ("name", "operand", "given"),
    "answer": ("head", "operand"),
    "when": ("operand", "many"),
}


# Where a deed's operands stand, from which piece of it to which, and where what is given to a letter does.
OPERANDS = {
    "set": (2, 3, None),
    "let": (3, 5, None),
    "note": (1, 2, None),
    "make": (1, 1, None),
    "place": (2, 3, None),
    "lay": (1, 2, 2),
    "put": (1, 1, 2),
    "call": (2, 3, 3),
    "answer": (2, 3, None),
    "when": (1, 2, None),
}


class Ground:
    """Where deeds stand: what they may name there, and whether there is an own lot.

    kinds are the names of the program's kinds, places the own kind's, with how many
    things their letters carry, heads the places of the rule's heads. Main has no places
    and no heads, so that put and answer name nothing there.
    """

    def __init__(self, kinds, places, heads, has_own):
        self.kinds = kinds
        self.places = places
        self.heads = heads
        self.has_own = has_own


def is_tuple_of(thing, least, most):
    """Whether it is a tuple of least to most things."""
    return isinstance(thing, tuple) and least <= len(thing) <= most


def is_operand(thing, has_own):
    """Whether it is an operand; own is one only where there is an own lot."""
    if not isinstance(thing, tuple):
        return False
    if len(thing) == 2:
        if thing[0] == "of":
            return is_word(thing[1])
        return thing[0] == "is" and is_written(thing[1])
    return has_own and len(thing) == 1 and thing[0] == "own"


def is_given(thing, has_own):
    """Whether it is a tuple of operands for a letter."""
    if not isinstance(thing, tuple) or len(thing) > MOST_GIVEN:
        return False
    for operand in thing:
        if not is_operand(operand, has_own):
            return False
    return True


def is_named(thing, words):
    """Whether it is one of these words; it is asked first whether it is a word at all."""
    return is_word(thing) and thing in words


def right_set(deed, behind, ground):
    return is_word(deed[1]) and is_operand(deed[2], ground.has_own)


def right_let(deed, behind, ground):
    if not is_word(deed[1]) or not is_named(deed[2], WORDS):
        return False
    return is_operand(deed[3], ground.has_own) and is_operand(deed[4], ground.has_own)


def right_note(deed, behind, ground):
    return is_operand(deed[1], ground.has_own)


def right_make(deed, behind, ground):
    return is_word(deed[1]) and is_named(deed[2], ground.kinds)


def right_place(deed, behind, ground):
    return is_word(deed[1]) and is_operand(deed[2], ground.has_own) and is_word(deed[3])


def right_lay(deed, behind, ground):
    return is_operand(deed[1], ground.has_own) and is_given(deed[2], ground.has_own)


def right_put(deed, behind, ground):
    if not is_named(deed[1], ground.places) or not is_given(deed[2], ground.has_own):
        return False
    return len(deed[2]) == ground.places[deed[1]]


def right_call(deed, behind, ground):
    return is_word(deed[1]) and is_operand(deed[2], ground.has_own) and is_given(deed[3], ground.has_own)


def right_answer(deed, behind, ground):
    return is_named(deed[1], ground.heads) and is_operand(deed[2], ground.has_own)


def right_when(deed, behind, ground):
    return is_operand(deed[1], ground.has_own) and is_whole(deed[2]) and 1 <= deed[2] <= behind


# What asks of a deed with as many pieces as its first word wants whether these are right.
ASKED = {
    "set": right_set,
    "let": right_let,
    "note": right_note,
    "make": right_make,
    "place": right_place,
    "lay": right_lay,
    "put": right_put,
    "call": right_call,
    "answer": right_answer,
    "when": right_when,
}


def is_deed(thing, behind, ground):
    """Whether it is a deed that may stand on this ground, with so many deeds behind it."""
    if not isinstance(thing, tuple) or len(thing) == 0:
        return False
    if not isinstance(thing[0], str) or thing[0] not in PARTS or len(thing) != 1 + len(PARTS[thing[0]]):
        return False
    asking = ASKED[thing[0]]
    return asking(thing, behind, ground)


def first_wrong_deed(deeds, ground):
    """The number of the first thing in a tuple that is no deed there, or None."""
    for at, deed in enumerate(deeds):
        if not is_deed(deed, len(deeds) - at - 1, ground):
            return at
    return None


def operands_of(deed):
    """The operands of a right deed in their order, what is given among them, a tuple."""
    first, last, given = OPERANDS[deed[0]]
    if given is None:
        return deed[first:last]
    return deed[first:last] + deed[given]
