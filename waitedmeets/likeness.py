"""Tellers alike: a closed table of pairs of heaps, or a row of letters that parts them."""

from waitedmeets.bounds import look_at_number
from waitedmeets.deeds import is_tuple_of
from waitedmeets.errors import Unlike
from waitedmeets.nets import is_marking
from waitedmeets.tellers import behind_letter, is_row_of, look_at_teller, no_letters, waits_of, words_of
from waitedmeets.worths import alike, says

MOST_WITHIN = 3


class Couple:
    """Two tellers side by side, to both of which the same letters come.

    letters has for each place's word the numbers of that place in the one and in the other; start is the pair of heaps
    of no letters; within is how many letters may lie at a place.
    """

    def __init__(self, one, other, within):
        others = words_of(other)
        self.letters = {word: (at, others.index(word)) for at, word in enumerate(words_of(one))}
        self.waits = (waits_of(one), waits_of(other))
        self.start = (no_letters(one), no_letters(other))
        self.within = within

    def behind_both(self, pair, word):
        """Whether the notes behind one more letter are the same, and the pair then.

        None where more would lie at a place than may.
        """
        place, beside = self.letters[word]
        notes, heap = behind_letter(self.waits[0], pair[0], place)
        others, heap_beside = behind_letter(self.waits[1], pair[1], beside)
        if max(heap) > self.within or max(heap_beside) > self.within:
            return None
        return (alike(notes, others), (heap, heap_beside))


def likeness(one, other, *, within=1):
    """("parted", row), as short as can be, or ("alike", pairs)."""
    couple = couple_of(one, other, within)
    pairs = [couple.start]
    ways = {couple.start: None}
    at = 0
    while at < len(pairs):
        pair = pairs[at]
        onward = letters_on(couple, pair)
        for word, (same, there) in onward:
            if not same:
                return ("parted", [*row_to(ways, pair), word])
            if there not in ways:
                ways[there] = (pair, word)
                pairs.append(there)
        at += 1
    return ("alike", pairs)


def couple_of(one, other, within):
    """The couple of two tellers with places of the same words; else it is refused, in the told order."""
    look_at_teller(one)
    look_at_teller(other)
    if sorted(words_of(one)) != sorted(words_of(other)):
        raise Unlike("the tellers' places have other words")
    look_at_number(within, 1, MOST_WITHIN)
    return Couple(one, other, within)


def letters_on(couple, pair):
    """Each word of a letter that may come where a pair lies, with what comes of it."""
    told = [(word, couple.behind_both(pair, word)) for word in couple.letters]
    return [(word, what) for word, what in told if what is not None]


def row_to(ways, pair):
    """The letters by which a pair was come to: ways has the pair ahead of each, and the letter between."""
    row = []
    while ways[pair] is not None:
        pair, word = ways[pair]
        row.append(word)
    return row[::-1]


def lets_likeness(one, other, thing, *, within=1):
    """Whether it is a tuple that parts two tellers, or shows them alike, whoever wrote it; of anything."""
    couple = couple_of(one, other, within)
    if not is_tuple_of(thing, 2, 2):
        return False
    if says(thing[0], "parted"):
        return parts(couple, thing[1])
    return says(thing[0], "alike") and is_table(couple, thing[1])


def parts(couple, thing):
    """Whether it is a row behind whose last letter, and no other one, the notes are others."""
    if not is_row_of(thing, list(couple.letters)):
        return False
    pair = couple.start
    same = True
    for word in thing:
        told = couple.behind_both(pair, word)
        if not same or told is None:
            return False
        same, pair = told
    return not same


def is_table(couple, thing):
    """Whether it is a list of unlike pairs, that of no letters there, that no letter leads out of."""
    if not isinstance(thing, list) or not all([is_pair(pair, couple.start) for pair in thing]):
        return False
    listed = {pair: True for pair in thing}
    if len(listed) != len(thing) or couple.start not in listed:
        return False
    return all([same and there in listed for pair in thing for word, (same, there) in letters_on(couple, pair)])


def is_pair(thing, start):
    """Whether it is a heap of each of two tellers, whose heaps of no letters are told."""
    if not is_tuple_of(thing, 2, 2):
        return False
    return all([is_marking(heap, len(none)) for heap, none in zip(thing, start)])
