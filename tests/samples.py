"""Programs that several tests take, and things that are none of anything."""

# Every deed and every sort of operand and slot stands in it once or more.
FULL = (
    (
        (
            "shop",
            (("ask", 2), ("hold", 0), ("none", 0), ("full", 3)),
            (
                (
                    (("ask", (("as", "who"), ("is", 7))), ("hold", ())),
                    (
                        ("set", "x", ("of", "who")),
                        ("let", "y", "plus", ("of", "x"), ("is", -3)),
                        ("note", ("own",)),
                        ("make", "n", "desk"),
                        ("place", "p", ("of", "n"), "row"),
                        ("when", ("is", True), 2),
                        ("lay", ("of", "p"), (("own",),)),
                        ("put", "full", (("is", 1), ("of", "x"), ("own",))),
                        ("call", "z", ("of", "p"), (("of", "y"),)),
                        ("answer", "ask", ("of", "z")),
                        ("put", "hold", ()),
                    ),
                ),
                ((("none", ()),), ()),
            ),
        ),
        ("idle", (("any", 1),), ()),
        (
            "desk",
            (("row", 1),),
            (
                (
                    (("row", (("is", False),)),),
                    (("answer", "row", ("is", False)), ("note", ("is", 10 ** 9))),
                ),
                ((("row", (("as", "row"),)),), (("set", "row", ("of", "row")),)),
            ),
        ),
    ),
    (
        ("make", "s", "shop"),
        ("place", "a", ("of", "s"), "ask"),
        ("let", "t", "same", ("of", "a"), ("is", 0)),
        ("when", ("of", "t"), 1),
        ("lay", ("of", "a"), (("is", 1), ("is", 7))),
        ("call", "b", ("of", "a"), ()),
        ("note", ("of", "b")),
        ("set", "c", ("is", -10 ** 9)),
    ),
)


class Thing:
    """Of no kind that the program knows."""


# None of these is right at any spot of a program.
JUNK = (None, [], {}, "", "Ab", "letters", b"ab", -10 ** 9 - 1, 10 ** 9 + 1, [("own",)], {"set": 1}, Thing())


def with_rules(*rules, places=(("a", 0), ("b", 1), ("c", 2), ("d", 3), ("e", 0))):
    """A program of one kind, k, with these rules."""
    return ((("k", places, tuple(rules)),), ())


def with_deeds(*deeds):
    """A program whose one rule, of a head at a and one at b, has these deeds."""
    return with_rules(((("a", ()), ("b", (("as", "v"),))), tuple(deeds)))


def with_heads(*heads):
    """A program whose one rule has these heads and no deeds."""
    return with_rules((tuple(heads), ()))


def with_main(*deeds):
    """A program of one kind, k, with these deeds of main."""
    return ((("k", (("a", 0),), ()),), tuple(deeds))
