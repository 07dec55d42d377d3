"""Tellers: kinds of which nothing is seen but what they note behind each letter."""

from waitedmeets.deeds import is_named
from waitedmeets.errors import NoRow, NoTeller
from waitedmeets.nets import is_kind


def is_teller(thing):
    """Whether it is a kind that is a teller, of anything."""
    if not is_kind(thing) or not all([many == 0 for word, many in thing[1]]):
        return False
    return all([is_written_note(deed) for heads, deeds in thing[2] for deed in deeds])


def is_written_note(deed):
    """Whether a right deed notes a worth that is written there."""
    return deed[0] == "note" and deed[1][0] == "is"


def told_by(teller, row):
    """The notes behind each letter of a row of places' words, and the heap at its end."""
    look_at_teller(teller)
    words = words_of(teller)
    if not is_row_of(row, words):
        raise NoRow("no list of places of the teller")
    waits = waits_of(teller)
    heap = no_letters(teller)
    told = []
    for word in row:
        notes, heap = behind_letter(waits, heap, words.index(word))
        told.append(notes)
    return (told, heap)


def look_at_teller(thing):
    """NoTeller of anything that is no teller."""
    if not is_teller(thing):
        raise NoTeller("no kind that is a teller")


def words_of(teller):
    """The words of a teller's places, in order."""
    return [word for word, many in teller[1]]


def is_row_of(thing, words):
    """Whether it is a list of some of these words, of anything."""
    return isinstance(thing, list) and all([is_named(word, words) for word in thing])


def no_letters(teller):
    """The heap of a teller to which no letter has come."""
    return tuple([0 for word, many in teller[1]])


def waits_of(teller):
    """For each rule which places, by numbers, it waits for, and the notes that it then tells."""
    words = words_of(teller)
    return [wait_of(heads, deeds, words) for heads, deeds in teller[2]]


def wait_of(heads, deeds, words):
    """The places of these words that a rule waits for, and what it notes."""
    return ([words.index(place) for place, slots in heads], tuple([deed[1][1] for deed in deeds]))


def behind_letter(waits, heap, place):
    """The notes of the first rule that can go off behind one more letter, () where none can, and the heap then."""
    lying = list(heap)
    lying[place] += 1
    for places, notes in waits:
        if all([lying[at] > 0 for at in places]):
            for at in places:
                lying[at] -= 1
            return notes, tuple(lying)
    return (), tuple(lying)
