"""Point 5: what is no program is refused, and the fields tell its first wrong thing."""

import unittest

from waitedmeets.errors import NoProgram
from waitedmeets.programs import look_at_program

from samples import FULL, JUNK, Thing, with_deeds, with_heads, with_main, with_rules

NOTE = ("note", ("is", 1))
BAD = ("note",)
LETTERS = "abcdefghijklmnopqrst"
KIND = ("k", (("a", 0),), ())


def spots_of(thing, path=()):
    """Every thing within a program, by the numbers that lead to it."""
    yield path, thing
    if isinstance(thing, tuple):
        for at, piece in enumerate(thing):
            yield from spots_of(piece, (*path, at))


def put_at(thing, path, other):
    """The program with another thing there."""
    if not path:
        return other
    at = path[0]
    return (*thing[:at], put_at(thing[at], path[1:], other), *thing[at + 1:])


def fields_at(path):
    """What is told of a thing that is wrong there."""
    if len(path) >= 2 and path[0] == 1:
        return (None, None, path[1])
    if len(path) < 2:
        return (None, None, None)
    if len(path) < 4 or path[2] != 2:
        return (path[1], None, None)
    if len(path) < 6 or path[4] != 1:
        return (path[1], path[3], None)
    return (path[1], path[3], path[5])


class Refusing(unittest.TestCase):
    def refused(self, thing, *fields):
        with self.assertRaises(NoProgram, msg=repr(thing)[:300]) as caught:
            look_at_program(thing)
        error = caught.exception
        self.assertEqual((error.kind, error.rule, error.deed), fields, repr(thing)[:300])


class Anywhere(Refusing):
    def test_junk_at_each_spot(self):
        for path, _ in spots_of(FULL):
            for junk in JUNK:
                self.refused(put_at(FULL, path, junk), *fields_at(path))

    def test_a_list_in_the_stead_of_each_tuple(self):
        for path, thing in spots_of(FULL):
            if isinstance(thing, tuple):
                self.refused(put_at(FULL, path, list(thing)), *fields_at(path))

    def test_one_thing_more_in_each_tuple(self):
        for path, thing in spots_of(FULL):
            if isinstance(thing, tuple):
                for junk in (None, [], "Ab", 10 ** 10):
                    self.refused(put_at(FULL, path, (*thing, junk)), *fields_at((*path, len(thing))))

    def test_another_word_at_the_head_of_a_tuple(self):
        heads = ("of", "is", "as", "own", "set", "let", "note", "make", "lay", "put", "call", "answer", "when")
        for path, thing in spots_of(FULL):
            if thing in heads:
                self.refused(put_at(FULL, path, "other"), *fields_at(path))

    def test_truths_in_the_stead_of_numbers(self):
        self.refused(with_rules(places=(("a", True),)), 0, None, None)
        self.refused(with_rules(places=(("a", False),)), 0, None, None)
        self.refused(with_deeds(("when", ("is", True), True), NOTE), 0, 0, 0)
        self.refused(with_main(("when", ("is", True), True), NOTE), None, None, 0)


class Frame(Refusing):
    def test_things_of_other_kinds(self):
        for thing in (*JUNK, 0, True, "ab", Thing, (), (FULL[0],), (*FULL, ()), list(FULL), FULL[0], FULL[1]):
            self.refused(thing, None, None, None)

    def test_how_many_kinds(self):
        self.refused(((), ()), None, None, None)
        self.refused((tuple((LETTERS[k], (("a", 0),), ()) for k in range(7)), ()), None, None, None)

    def test_how_many_deeds_of_main(self):
        self.refused(with_main(*[NOTE] * 17), None, None, None)

    def test_ahead_of_kinds_and_deeds(self):
        self.refused(((None,) * 7, ()), None, None, None)
        self.refused(((None,), [None]), None, None, None)
        self.refused(((KIND,), (BAD,) * 17), None, None, None)


class Kinds(Refusing):
    def test_names(self):
        for name in ("", "letters", "K", "k1", b"k", None, 0, ("k",)):
            self.refused(((KIND, (name, (("a", 0),), ())), ()), 1, None, None)

    def test_a_name_that_stood_ahead(self):
        other = ("m", (("a", 0),), ())
        self.refused(((KIND, KIND), ()), 1, None, None)
        self.refused(((KIND, other, ("k", (("z", 1),), ())), ()), 2, None, None)

    def test_how_many_places(self):
        self.refused(with_rules(places=()), 0, None, None)
        self.refused(with_rules(places=tuple((LETTERS[p], 0) for p in range(7))), 0, None, None)

    def test_places(self):
        for place in ((), ("a",), ("a", 0, 0), (0, "a"), ("", 0), ("A", 0), ("letters", 0), ("a", None), ("a", "0"),
                      ("a", -1), ("a", 4), ("a", (0,)), ["a", 0], "ab", None):
            self.refused(with_rules(places=(place,)), 0, None, None)
            self.refused(with_rules(places=(("z", 0), place)), 0, None, None)

    def test_places_alike(self):
        self.refused(with_rules(places=(("a", 0), ("a", 0))), 0, None, None)
        self.refused(with_rules(places=(("a", 0), ("b", 0), ("a", 1))), 0, None, None)

    def test_how_many_rules(self):
        self.refused(with_rules(*[((("a", ()),), ())] * 9), 0, None, None)
        self.refused(with_rules(*[None] * 9), 0, None, None)

    def test_as_many_things_as_a_kind_has(self):
        for kind in ((), ("k",), KIND[:2], (*KIND, ()), list(KIND)):
            self.refused(((kind,), ()), 0, None, None)

    def test_shapes_ahead_of_every_rule(self):
        wrong_rule = ("k", (("a", 0),), (None,))
        self.refused(((wrong_rule, None), ()), 1, None, None)
        self.refused(((wrong_rule, KIND), ()), 1, None, None)
        self.refused(((wrong_rule, ("m", (("a", 9),), ())), (BAD,)), 1, None, None)
        wrong_deed = ("k", (("a", 0),), (((("a", ()),), (BAD,)),))
        self.refused(((wrong_deed, ("m", (), ())), ()), 1, None, None)

    def test_the_first_wrong_kind(self):
        self.refused(((None, None), ()), 0, None, None)
        self.refused(((KIND, KIND, None), ()), 1, None, None)
        self.refused(((KIND, None, KIND), ()), 1, None, None)


class Rules(Refusing):
    def test_shapes(self):
        heads = (("a", ()),)
        for rule in (None, (), (heads,), (heads, (), ()), [heads, ()], (heads, []), (heads, None), ((), ()), ([], ()),
                     (None, ()), ((), heads)):
            self.refused(with_rules(rule), 0, 0, None)
            self.refused(with_rules(((("a", ()),), ()), rule), 0, 1, None)

    def test_how_many_heads(self):
        places = tuple((LETTERS[p], 0) for p in range(6))
        heads = tuple((LETTERS[p], ()) for p in range(5))
        self.assertIsNone(look_at_program(with_rules((heads[:4], ()), places=places)))
        self.refused(with_rules((heads, ()), places=places), 0, 0, None)
        self.refused(with_heads(), 0, 0, None)

    def test_heads(self):
        for head in (None, (), ("a",), ("a", (), ()), ["a", ()], ("z", ()), ("A", ()), ("k", ()), (0, ()), (["a"], ()),
                     ("a", []), ("a", None)):
            self.refused(with_heads(head), 0, 0, None)
            self.refused(with_heads(("e", ()), head), 0, 0, None)

    def test_a_place_of_another_kind(self):
        kinds = (("k", (("a", 0),), (((("b", ()),), ()),)), ("m", (("b", 0),), ()))
        self.refused((kinds, ()), 0, 0, None)

    def test_places_alike(self):
        self.refused(with_heads(("a", ()), ("a", ())), 0, 0, None)
        self.refused(with_heads(("b", (("as", "x"),)), ("a", ()), ("b", (("as", "y"),))), 0, 0, None)

    def test_as_many_slots_as_the_place_has(self):
        slot = ("is", 1)
        for place, many in (("a", 0), ("b", 1), ("c", 2), ("d", 3)):
            for other in range(5):
                if other != many:
                    self.refused(with_heads((place, (slot,) * other)), 0, 0, None)

    def test_slots(self):
        for slot in (None, (), ("as",), ("as", "x", "y"), ["as", "x"], ("as", ""), ("as", "X"), ("as", "letters"),
                     ("as", 1), ("as", ["x"]), ("is",), ("is", 1, 1), ("is", None), ("is", "x"), ("is", 10 ** 9 + 1),
                     ("is", -10 ** 9 - 1), ("is", ("lot", 0)), ("is", ("place", 0, "a")), ("of", "x"), ("own",),
                     ("x", "as"), (None, 1), (b"is", 1), (["is"], 1), "as"):
            self.refused(with_heads(("b", (slot,))), 0, 0, None)
            self.refused(with_heads(("c", (("is", 1), slot))), 0, 0, None)

    def test_names_alike(self):
        self.refused(with_heads(("c", (("as", "x"), ("as", "x")))), 0, 0, None)
        self.refused(with_heads(("b", (("as", "x"),)), ("c", (("is", 1), ("as", "x")))), 0, 0, None)

    def test_how_many_deeds(self):
        self.refused(with_deeds(*[NOTE] * 13), 0, 0, None)
        self.refused(with_deeds(*[BAD] * 13), 0, 0, None)

    def test_heads_ahead_of_deeds(self):
        self.refused(with_rules(((("a", ()), ("a", ())), (BAD,))), 0, 0, None)

    def test_the_first_wrong_rule(self):
        right = ((("a", ()),), ())
        self.refused(with_rules(right, None, None), 0, 1, None)
        self.refused(with_rules(right, ((("a", ()),), (BAD,)), None), 0, 1, 0)
        self.refused(with_rules(right, None, ((("a", ()),), (BAD,))), 0, 1, None)

    def test_kind_by_kind(self):
        def kind(name, rule):
            return (name, (("a", 0),), (((("a", ()),), ()), rule))
        deed_wrong = ((("a", ()),), (NOTE, BAD))
        self.refused(((kind("k", deed_wrong), kind("m", None)), (BAD,)), 0, 1, 1)
        self.refused(((KIND, kind("m", None), kind("n", deed_wrong)), (BAD,)), 1, 1, None)


class Deeds(Refusing):
    def in_both(self, deed):
        self.refused(with_deeds(NOTE, deed, NOTE), 0, 0, 1)
        self.refused(with_main(NOTE, deed, NOTE), None, None, 1)

    def test_no_deeds(self):
        for deed in (None, (), ("note",), "note", ["note", ("is", 1)], ("Note", ("is", 1)), (b"note", ("is", 1)),
                     (["note"], ("is", 1)), (None, ("is", 1)), (0, ("is", 1)), ("own",), ("of", "x"), ("go", 1),
                     (("is", 1), "note"), ("set",), ("plus", "x", ("is", 1), ("is", 1))):
            self.in_both(deed)

    def test_as_many_things_as_a_deed_has(self):
        for deed in (("set", "x", ("is", 1)), ("let", "x", "plus", ("is", 1), ("is", 1)), ("note", ("is", 1)),
                     ("make", "x", "k"), ("place", "x", ("is", 1), "a"), ("lay", ("is", 1), ()), ("put", "a", ()),
                     ("call", "x", ("is", 1), ()), ("answer", "a", ("is", 1)), ("when", ("is", True), 1)):
            self.assertIsNone(look_at_program(with_deeds(deed, NOTE)))
            self.in_both(deed[:-1])
            self.in_both((*deed, deed[-1]))

    def test_names(self):
        for x in ("", "X", "letters", "x1", None, 0, ["x"], ("of", "x"), b"x"):
            self.in_both(("set", x, ("is", 1)))
            self.in_both(("let", x, "plus", ("is", 1), ("is", 1)))
            self.in_both(("make", x, "k"))
            self.in_both(("place", x, ("is", 1), "a"))
            self.in_both(("place", "x", ("is", 1), x))
            self.in_both(("call", x, ("is", 1), ()))

    def test_operands(self):
        for a in (None, (), "x", 1, True, ("of",), ("of", "x", "y"), ("of", "X"), ("of", 1), ("of", ["x"]), ["of", "x"],
                  ("is",), ("is", 1, 1), ("is", None), ("is", "x"), ("is", ("lot", 0)), ("is", ("place", 0, "a")),
                  ("is", 10 ** 9 + 1), ("is", -10 ** 9 - 1), ("is", ["x"]), ("own", 1), ("own", "x"), ["own"], ("Own",),
                  (None,), (["own"],), ("as", "x"), (b"of", "x"), ("x", "of"), ("is",) * 3, (("own",),)):
            self.in_both(("set", "x", a))
            self.in_both(("let", "x", "plus", a, ("is", 1)))
            self.in_both(("let", "x", "plus", ("is", 1), a))
            self.in_both(("note", a))
            self.in_both(("place", "x", a, "a"))
            self.in_both(("lay", a, ()))
            self.in_both(("lay", ("is", 1), (a,)))
            self.in_both(("lay", ("is", 1), (("is", 1), ("is", 1), a)))
            self.in_both(("put", "b", (a,)))
            self.in_both(("call", "x", a, ()))
            self.in_both(("call", "x", ("is", 1), (("is", 1), a)))
            self.in_both(("answer", "a", a))
            self.in_both(("when", a, 1))

    def test_words_of_a_let(self):
        for word in ("", "Plus", "equal", "let", "above", None, 0, ["plus"], ("plus",), b"plus"):
            self.in_both(("let", "x", word, ("is", 1), ("is", 1)))

    def test_kinds_to_make(self):
        for kind in ("m", "a", "K", "", None, 0, ["k"], KIND, b"k"):
            self.in_both(("make", "x", kind))

    def test_how_many_are_given(self):
        for given in ((("is", 1),) * 4, [("is", 1)], [], None, ("is", 1), ("own",), "ab", {}):
            self.in_both(("lay", ("is", 1), given))
            self.in_both(("call", "x", ("is", 1), given))
            self.in_both(("put", "b", given))

    def test_places_to_put_to(self):
        for name in ("z", "k", "v", "A", "", None, 0, ["a"], ("a",), b"a"):
            self.in_both(("put", name, ()))

    def test_put_gives_as_many_as_the_place_has(self):
        for place, many in (("a", 0), ("b", 1), ("c", 2), ("d", 3)):
            for other in range(5):
                if other != many:
                    self.in_both(("put", place, (("is", 1),) * other))

    def test_a_place_of_another_kind(self):
        rule = ((("a", ()),), (("put", "b", ()),))
        self.refused(((("k", (("a", 0),), (rule,)), ("m", (("b", 0),), ())), ()), 0, 0, 0)

    def test_answers(self):
        for name in ("c", "e", "v", "z", "k", "A", "", None, 0, ["a"], ("a",), b"a"):
            self.in_both(("answer", name, ("is", 1)))

    def test_whens_number(self):
        for n in (0, -1, 2, 3, True, False, None, "1", (1,), [1], 10 ** 30):
            self.in_both(("when", ("is", True), n))
        for many in (0, 1, 5, 11):
            self.refused(with_deeds(("when", ("is", True), many + 1), *[NOTE] * many), 0, 0, 0)
        self.refused(with_main(("when", ("is", True), 16), *[NOTE] * 15), None, None, 0)
        self.refused(with_main(*[NOTE] * 15, ("when", ("is", True), 1)), None, None, 15)

    def test_the_first_wrong_deed(self):
        self.refused(with_deeds(NOTE, BAD, NOTE, None), 0, 0, 1)
        self.refused(with_main(NOTE, NOTE, None, BAD), None, None, 2)


class Main(Refusing):
    def test_no_own(self):
        own = ("own",)
        for deed in (("set", "x", own), ("let", "x", "same", own, ("is", 1)), ("let", "x", "same", ("is", 1), own),
                     ("note", own), ("place", "x", own, "a"), ("lay", own, ()), ("lay", ("is", 1), (own,)),
                     ("call", "x", own, ()), ("call", "x", ("is", 1), (("is", 1), ("is", 1), own))):
            self.assertIsNone(look_at_program(with_deeds(NOTE, deed)))
            self.refused(with_main(NOTE, deed), None, None, 1)
        self.refused(with_main(("when", own, 1), NOTE), None, None, 0)

    def test_no_put_and_no_answer(self):
        self.refused(with_main(("put", "a", ())), None, None, 0)
        self.refused(with_main(NOTE, ("answer", "a", ("is", 1))), None, None, 1)

    def test_behind_all_rules(self):
        kinds = (KIND, ("m", (("a", 0),), (((("a", ()),), (NOTE, BAD)),)))
        self.refused((kinds, (BAD,)), 1, 0, 1)
        self.refused(((KIND,), (NOTE, BAD)), None, None, 1)


if __name__ == "__main__":
    unittest.main()
