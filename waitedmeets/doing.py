"""What each deed does to the body whose deed it is, and to the crew of that body.

Each of these tells what is left to be done by who has the crew: NOTHING; ("letter", lot, letter), one that goes to
that lot; ("answer", body, worth), one that goes to that body; or it tells ("fault", word). They are handed the worths
of the deed's operands, all of which are set: that is asked ahead of them.
"""

from waitedmeets.worths import done

NOTHING = ("nothing",)


def is_tagged(worth, tag):
    """Whether a worth is a lot, or a place, as the tag says; that it is a worth is known here."""
    return isinstance(worth, tuple) and worth[0] == tag


def do_set(crew, body, deed, worths):
    body.worths[deed[1]] = worths[0]
    return NOTHING


def do_let(crew, body, deed, worths):
    told = done(deed[2], worths[0], worths[1])
    if told[0] == "fault":
        return told
    body.worths[deed[1]] = told[1]
    return NOTHING


def do_note(crew, body, deed, worths):
    crew.noted.append(worths[0])
    return NOTHING


def do_make(crew, body, deed, worths):
    body.worths[deed[1]] = crew.new_lot(deed[2])
    return NOTHING


def do_place(crew, body, deed, worths):
    lot = worths[0]
    if not is_tagged(lot, "lot"):
        return ("fault", "kind")
    if crew.carried_at(lot[1], deed[3]) is None:
        return ("fault", "place")
    body.worths[deed[1]] = ("place", lot[1], deed[3])
    return NOTHING


def do_lay(crew, body, deed, worths):
    return laid(crew, worths, None)


def do_put(crew, body, deed, worths):
    return ("letter", body.lot, crew.new_letter(deed[1], worths, None))


def do_call(crew, body, deed, worths):
    told = laid(crew, worths, body.number)
    if told[0] == "letter":
        body.goal = deed[1]
    return told


def laid(crew, worths, asker):
    """A letter to the place that is the first worth, with the others, if there can be one."""
    place = worths[0]
    given = worths[1:]
    if not is_tagged(place, "place"):
        return ("fault", "kind")
    if crew.carried_at(place[1], place[2]) != len(given):
        return ("fault", "many")
    return ("letter", place[1], crew.new_letter(place[2], given, asker))


def do_answer(crew, body, deed, worths):
    place = deed[1]
    asker = body.askers[place]
    if asker is None:
        return NOTHING
    if place in body.answered:
        return ("fault", "twice")
    body.answered.append(place)
    return ("answer", asker, worths[0])


def do_when(crew, body, deed, worths):
    if not isinstance(worths[0], bool):
        return ("fault", "kind")
    if not worths[0]:
        body.todo = body.todo[deed[2]:]
    return NOTHING


DOINGS = {
    "set": do_set,
    "let": do_let,
    "note": do_note,
    "make": do_make,
    "place": do_place,
    "lay": do_lay,
    "put": do_put,
    "call": do_call,
    "answer": do_answer,
    "when": do_when,
}
