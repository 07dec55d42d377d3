"""Deeds and their operands: what is one, and what is none."""

from waitedmeets.worths import WORDS, is_whole, is_word, is_written, says

MOST_GIVEN = 3

# Of what a deed is made behind its first word.
PARTS = {
    "set": ("name", "operand"),
    "let": ("name", "word", "operand", "operand"),
    "note": ("operand",),
    "make": ("name", "kind"),
    "place": ("name", "operand", "name"),
    "lay": ("operand", "given"),
    "put": ("own place", "given"),
    "call": ("name", "operand", "given"),
    "answer": ("head", "operand"),
    "when": ("operand", "many"),
}


class Ground:
    """Where deeds stand: what they may name there, and whether there is an own lot.

    kinds are the names of the program's kinds, places the own kind's, with how many
    things their letters carry, heads the places of the rule's heads. Main has no places
    and no heads, so that put and answer name nothing there.
    """

    def __init__(self, kinds, places, heads, has_own):
        self.kinds = kinds
        self.places = places
        self.heads = heads
        self.has_own = has_own


def is_tuple_of(thing, least, most):
    """Whether it is a tuple of least to most things."""
    return isinstance(thing, tuple) and least <= len(thing) <= most


def is_operand(thing, has_own):
    """Whether it is an operand; own is one only where there is an own lot."""
    if is_tuple_of(thing, 1, 1):
        return has_own and says(thing[0], "own")
    if not is_tuple_of(thing, 2, 2):
        return False
    if says(thing[0], "of"):
        return is_word(thing[1])
    return says(thing[0], "is") and is_written(thing[1])


def is_given(thing, has_own):
    """Whether it is a tuple of operands for a letter."""
    if not is_tuple_of(thing, 0, MOST_GIVEN):
        return False
    return all([is_operand(operand, has_own) for operand in thing])


def is_named(thing, words):
    """Whether it is one of these words; it is asked first whether it is a word at all."""
    return is_word(thing) and thing in words


def is_part(part, thing, behind, ground):
    """Whether it can be this part of a deed behind which so many deeds stand."""
    if part == "name":
        return is_word(thing)
    if part == "operand":
        return is_operand(thing, ground.has_own)
    if part == "given":
        return is_given(thing, ground.has_own)
    if part == "many":
        return is_whole(thing) and 1 <= thing <= behind
    return is_named(thing, named_by(part, ground))


def named_by(part, ground):
    """The words of which a part of a deed is one."""
    if part == "word":
        return WORDS
    if part == "kind":
        return ground.kinds
    if part == "head":
        return ground.heads
    return ground.places


def is_deed(thing, behind, ground):
    """Whether it is a deed that may stand on this ground, with so many deeds behind it."""
    if not isinstance(thing, tuple) or len(thing) == 0:
        return False
    if not is_word(thing[0]) or thing[0] not in PARTS:
        return False
    parts = PARTS[thing[0]]
    if len(thing) != 1 + len(parts):
        return False
    if not all([is_part(part, piece, behind, ground) for part, piece in zip(parts, thing[1:])]):
        return False
    return thing[0] != "put" or len(thing[2]) == ground.places[thing[1]]


def first_wrong_deed(deeds, ground):
    """The number of the first thing in a tuple that is no deed there, or None."""
    for at, deed in enumerate(deeds):
        if not is_deed(deed, len(deeds) - at - 1, ground):
            return at
    return None


def operands_of(deed):
    """The operands of a right deed in their order, what is given among them."""
    found = []
    for part, piece in zip(PARTS[deed[0]], deed[1:]):
        if part == "operand":
            found.append(piece)
        if part == "given":
            found.extend(piece)
    return found
