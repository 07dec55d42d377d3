"""Which letters of a heap can meet by a rule, and what a body has of those that were taken for it."""

from waitedmeets.worths import alike


def fits(letter, head):
    """Whether a letter lies at a head's place and carries what the head asks for."""
    if letter[1] != head[0]:
        return False
    for slot, worth in zip(head[1], letter[2]):
        if slot[0] == "is" and not alike(slot[1], worth):
            return False
    return True


def fitting(heap, head):
    """The numbers of the letters of a heap that fit a head, in the heap's order."""
    return [letter[0] for letter in heap if fits(letter, head)]


def choices(heap, heads):
    """Each choice of letters for these heads, sorted where the heap's letters rise."""
    rows = [()]
    for head in heads:
        numbers = fitting(heap, head)
        rows = [(*row, number) for row in rows for number in numbers]
    return rows


def first_fitting(heap, head):
    """The number of the first letter of a heap that fits a head; None where none does."""
    for letter in heap:
        if fits(letter, head):
            return letter[0]
    return None


def first_choice(heap, heads):
    """For each head the first letter of the heap that fits; None where one has none."""
    found = []
    for head in heads:
        number = first_fitting(heap, head)
        if number is None:
            return None
        found.append(number)
    return tuple(found)


def first_meeting(heap, rules):
    """The number of the first rule that can meet, and its first letters; None where none can."""
    for number, rule in enumerate(rules):
        letters = first_choice(heap, rule[0])
        if letters is not None:
            return (number, letters)
    return None


def letters_numbered(heap, numbers):
    """The letters of these numbers that lie in a heap, in the numbers' order."""
    return [letter for number in numbers for letter in heap if letter[0] == number]


def is_choice(heap, heads, numbers):
    """Whether these numbers, a tuple of whole ones, are letters of the heap that fit the heads, one each."""
    if len(numbers) != len(heads):
        return False
    letters = letters_numbered(heap, numbers)
    if len(letters) != len(heads):
        return False
    return all([fits(letter, head) for letter, head in zip(letters, heads)])


def without(heap, letters):
    """A heap without the letters of these numbers."""
    return [letter for letter in heap if letter[0] not in letters]


def begin_met(crew, lot, rule, heap, letters):
    """The number of the body of a meeting of letters of this heap, None where the rule has no deeds."""
    heads, deeds = crew.rules_at(lot)[rule]
    taken = letters_numbered(heap, letters)
    askers = {letter[1]: letter[3] for letter in taken}
    return crew.begin(lot, carried(heads, taken), deeds, askers)


def carried(heads, letters):
    """The names of the heads' slots, with what the letters carry there."""
    worths = {}
    for head, letter in zip(heads, letters):
        for slot, worth in zip(head[1], letter[2]):
            if slot[0] == "as":
                worths[slot[1]] = worth
    return worths
