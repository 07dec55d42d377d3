"""Programs that several tests take, and things that are none of anything."""

from waitedmeets.errors import NoNames
from waitedmeets.otherwise import called

# Every deed and every sort of operand and slot stands in it once or more.
FULL = (
    (
        (
            "shop",
            (("ask", 2), ("hold", 0), ("none", 0), ("full", 3)),
            (
                (
                    (("ask", (("as", "who"), ("is", 7))), ("hold", ())),
                    (
                        ("set", "x", ("of", "who")),
                        ("let", "y", "plus", ("of", "x"), ("is", -3)),
                        ("note", ("own",)),
                        ("make", "n", "desk"),
                        ("place", "p", ("of", "n"), "row"),
                        ("when", ("is", True), 2),
                        ("lay", ("of", "p"), (("own",),)),
                        ("put", "full", (("is", 1), ("of", "x"), ("own",))),
                        ("call", "z", ("of", "p"), (("of", "y"),)),
                        ("answer", "ask", ("of", "z")),
                        ("put", "hold", ()),
                    ),
                ),
                ((("none", ()),), ()),
            ),
        ),
        ("idle", (("any", 1),), ()),
        (
            "desk",
            (("row", 1),),
            (
                (
                    (("row", (("is", False),)),),
                    (("answer", "row", ("is", False)), ("note", ("is", 10 ** 9))),
                ),
                ((("row", (("as", "row"),)),), (("set", "row", ("of", "row")),)),
            ),
        ),
    ),
    (
        ("make", "s", "shop"),
        ("place", "a", ("of", "s"), "ask"),
        ("let", "t", "same", ("of", "a"), ("is", 0)),
        ("when", ("of", "t"), 1),
        ("lay", ("of", "a"), (("is", 1), ("is", 7))),
        ("call", "b", ("of", "a"), ()),
        ("note", ("of", "b")),
        ("set", "c", ("is", -10 ** 9)),
    ),
)


class Thing:
    """Of no kind that the program knows."""


# None of these is right at any spot of a program.
JUNK = (None, [], {}, "", "Ab", "letters", b"ab", -10 ** 9 - 1, 10 ** 9 + 1, [("own",)], {"set": 1}, Thing())


def with_rules(*rules, places=(("a", 0), ("b", 1), ("c", 2), ("d", 3), ("e", 0))):
    """A program of one kind, k, with these rules."""
    return ((("k", places, tuple(rules)),), ())


def with_deeds(*deeds):
    """A program whose one rule, of a head at a and one at b, has these deeds."""
    return with_rules(((("a", ()), ("b", (("as", "v"),))), tuple(deeds)))


def with_heads(*heads):
    """A program whose one rule has these heads and no deeds."""
    return with_rules((tuple(heads), ()))


def with_main(*deeds):
    """A program of one kind, k, with these deeds of main."""
    return ((("k", (("a", 0),), ()),), tuple(deeds))


OWN = ("own",)


def of(name):
    return ("of", name)


def isw(worth):
    """The operand, or the slot, of a written worth."""
    return ("is", worth)


def kind(name, places, *rules):
    """A kind; its places as a text, "a0 b1" for a without things and b with one."""
    return (name, tuple((word[:-1], int(word[-1])) for word in places.split()), tuple(rules))


def head(place, *slots):
    """A head; a slot that is a text is a name to take a worth by, all else a worth to ask for."""
    return (place, tuple(("as", slot) if isinstance(slot, str) else ("is", slot) for slot in slots))


def rule(heads, *deeds):
    """A rule; a head that is a text is a place without things."""
    return (tuple(head(one) if isinstance(one, str) else one for one in heads), tuple(deeds))


def lot_at(x, name, places):
    """Deeds of main that make a lot, called x, and its places, each called as the place's letter."""
    return (("make", x, name), *[("place", place, of(x), place) for place in places])


def lay(place, *worths):
    """A deed that lays a letter with these written worths at the place that a name of this word has."""
    return ("lay", of(place), tuple(isw(worth) for worth in worths))


def gone(thing, body, many=1):
    """A Stand or World whose body has gone on so many times."""
    for _ in range(many):
        thing.do(("go", body))
    return thing


def all_gone(stand):
    """A Stand in which the least body goes, again and again, and nothing meets."""
    while stand.steps() and stand.steps()[0][0] == "go":
        stand.do(stand.steps()[0])
    return stand


# A box: what is put in is handed to who gets it.
BOX = kind("box", "put1 get0", rule([head("put", "v"), "get"], ("answer", "get", of("v"))))
BOXED = (
    (BOX,),
    (*lot_at("b", "box", ("put", "get")), lay("put", 7), ("call", "x", of("get"), ()), ("note", of("x"))),
)


def of_spots(many, *heads, filling="efghi"):
    """A program with a kind k of so many spots, those of further heads of all its rules among them, and a kind l of one.

    The further heads' places carry nothing; with such of filling there are as many spots as told.
    """
    rest = many - len(heads)
    sizes = [(one, other) for one in range(1, 10) for other in range(1, 10) if one + other <= 10]
    one, other = next(size for size in sizes if 0 <= rest - size[0] * size[1] <= len(filling))
    rules = [rule([head("a", number, "v"), *heads], ("note", of("v"))) for number in range(one - 1)]
    rules += [rule([head("a", "v", number), *heads], ("note", of("v"))) for number in range(other - 1)]
    places = ["a2", *[place + "0" for place in heads], *[place + "0" for place in filling[:rest - one * other]]]
    return ((kind("k", " ".join(places), *rules), kind("l", "a0")), ())


def all_words(program):
    """The words of places and names of a program: those of its words that can be called as they are."""
    found = set()
    for word in {piece for piece in flat(program) if isinstance(piece, str)}:
        try:
            called(program, words={word: word})
        except NoNames:
            continue
        found.add(word)
    return sorted(found)


def flat(thing):
    if isinstance(thing, tuple):
        for piece in thing:
            yield from flat(piece)
    else:
        yield thing
