"""Made things: programs in which users share a lock, a shelf, a barrier, a room to read in; and the words they keep.

Each has one kind: the made thing, with the rules by which its users go. A user asks by a call, so that it waits till
the thing is its own. What is lent is given back where it lay: the letter there carries that very place, its key.
"""

from waitedmeets.bounds import look_at_number
from waitedmeets.errors import NoNumber
from waitedmeets.worths import is_number, is_whole

MADE = ("locked", "shelved", "met", "reading")

MOST_SHELVED = 3
WRITER = 9


def locked(many):
    """One or two users of a lock: each notes its number k, then -k, while it has the lock."""
    look_at_number(many, 1, 2)
    lends = ((wants("ask"), wants("free", "key")), (("answer", "ask", named("key")),))
    lock = ("lock", (("ask", 0), ("free", 1), ("user", 3)), (lends, user_rule()))
    main = (
        ("make", "lock", "lock"),
        *key_laid("free", "lock"),
        *places_known(["ask", "user"], "lock"),
        *[user_comes(number, "ask") for number in range(1, many + 1)],
    )
    return ((lock,), main)


def shelved(numbers):
    """One lays one to three numbers into a room that holds one thing, one takes them out and notes them."""
    if not are_shelved(numbers):
        raise NoNumber("no list of one to three numbers that are worths")
    fills = ((wants("put", "thing"), wants("void")), (("put", "full", (named("thing"),)), ("answer", "put", ("own",))))
    empties = ((wants("get"), wants("full", "thing")), (("put", "void", ()), ("answer", "get", named("thing"))))
    gives = tuple([("call", "done", named("put"), (written(number),)) for number in numbers])
    takes = (("call", "thing", named("get"), ()), ("note", named("thing"))) * len(numbers)
    users = (((wants("giver", "put"),), gives), ((wants("taker", "get"),), takes))
    places = (("put", 1), ("get", 0), ("void", 0), ("full", 1), ("giver", 1), ("taker", 1))
    main = (
        ("make", "room", "room"),
        *places_known(["void", "put", "get", "giver", "taker"], "room"),
        ("lay", named("void"), ()),
        ("lay", named("giver"), (named("put"),)),
        ("lay", named("taker"), (named("get"),)),
    )
    return ((("room", places, (fills, empties, *users)),), main)


def met(many):
    """Two or three users: each notes 1, waits till all have come, and notes 2."""
    look_at_number(many, 2, 3)
    sides = ["one", "two", "three"][:many]
    meets = (tuple([wants(side) for side in sides]), tuple([("answer", side, ("own",)) for side in sides]))
    deeds = (("note", written(1)), ("call", "all", named("side"), ()), ("note", written(2)))
    places = (*[(side, 0) for side in sides], ("user", 1))
    main = (
        ("make", "gate", "gate"),
        *places_known([*sides, "user"], "gate"),
        *[("lay", named("user"), (named(side),)) for side in sides],
    )
    return ((("gate", places, (meets, ((wants("user", "side"),), deeds))),), main)


def reading(many):
    """One or two readers, each of whom notes its number k, then -k, and a writer, who notes 9, then -9, alone.

    Each reader has a chair; the writer takes them all. Main is the writer, so that there are fewer stands.
    """
    look_at_number(many, 1, 2)
    chairs = ["one", "two"][:many]
    asks = ["reada", "readb"][:many]
    seats = [((wants(ask), wants(chair, "key")), (("answer", ask, named("key")),)) for ask, chair in zip(asks, chairs)]
    clears = ((wants("write"), *[wants(chair, chair) for chair in chairs]), (("answer", "write", ("own",)),))
    places = (*[(ask, 0) for ask in asks], *[(chair, 1) for chair in chairs], ("write", 0), ("user", 3))
    main = (
        ("make", "room", "room"),
        *[deed for chair in chairs for deed in key_laid(chair, "room")],
        *places_known([*asks, "user", "write"], "room"),
        *[user_comes(at + 1, ask) for at, ask in enumerate(asks)],
        ("call", "done", named("write"), ()),
        ("note", written(WRITER)),
        ("note", written(-WRITER)),
        *[key_given(chair) for chair in chairs],
    )
    return ((("room", places, (*seats, clears, user_rule())),), main)


def are_shelved(thing):
    """Whether it is a list of numbers that can be laid on a shelf, of anything."""
    if not isinstance(thing, list) or not 1 <= len(thing) <= MOST_SHELVED:
        return False
    return all([is_number(number) for number in thing])


def named(word):
    """The operand of a name."""
    return ("of", word)


def written(worth):
    """The operand of a worth that is written there."""
    return ("is", worth)


def wants(place, *names):
    """A head that takes by these names what a letter at a place carries."""
    return (place, tuple([("as", name) for name in names]))


def places_known(words, lot):
    """Deeds by which these places of a lot are known by their own words."""
    return [("place", word, named(lot), word) for word in words]


def key_given(place):
    """The deed by which what was lent is given back to a place: its key lies there."""
    return ("lay", named(place), (named(place),))


def key_laid(place, lot):
    """Deeds by which a place of a lot is known, and its key laid there."""
    return [*places_known([place], lot), key_given(place)]


def user_comes(number, ask):
    """The deed by which a user of this number comes, who asks at a place."""
    return ("lay", named("user"), (written(number), written(-number), named(ask)))


def user_rule():
    """The rule of a user: it asks, notes both of its numbers, and gives back what it was lent."""
    deeds = (("call", "key", named("ask"), ()), ("note", named("first")), ("note", named("last")), key_given("key"))
    return ((wants("user", "first", "last", "ask"),), deeds)


def keeps(word, of, notes):
    """Whether the word of a made thing, made of this, is kept by notes; of anything as notes."""
    if not isinstance(notes, list) or not all([is_whole(number) for number in notes]):
        return False
    keeping = KEEPING[word]
    return keeping(of, notes)


def keeps_locked(many, notes):
    """Each user's two numbers once, side by side."""
    users = list(range(1, many + 1))
    return are_once(users, notes) and all([stand_together(user, notes) for user in users])


def keeps_shelved(numbers, notes):
    """The numbers, in order."""
    return notes == numbers


def keeps_met(many, notes):
    """All come ahead of all that go on."""
    return notes == [1] * many + [2] * many


def keeps_reading(many, notes):
    """Each user's two numbers once, in order, the writer's side by side."""
    readers = list(range(1, many + 1))
    if not are_once([*readers, WRITER], notes) or not stand_together(WRITER, notes):
        return False
    return all([notes.index(reader) < notes.index(-reader) for reader in readers])


def are_once(users, notes):
    """Whether the notes are just these users' two numbers, each once."""
    return sorted(notes) == sorted([*users, *[-user for user in users]])


def stand_together(user, notes):
    """Whether a user's second number stands right behind its first one."""
    return notes.index(-user) == notes.index(user) + 1


KEEPING = {
    "locked": keeps_locked,
    "shelved": keeps_shelved,
    "met": keeps_met,
    "reading": keeps_reading,
}
