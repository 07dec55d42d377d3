"""Point 5: what is let by as a program, and its kinds and main."""

import unittest

from waitedmeets.errors import NoKind, NoProgram
from waitedmeets.programs import kind_of, look_at_program, main_of
from waitedmeets.worths import WORDS

from samples import FULL, JUNK, with_deeds, with_heads, with_main, with_rules

LETTERS = "abcdefghijklmnopqrst"


class LetBy(unittest.TestCase):
    def let_by(self, program):
        self.assertIsNone(look_at_program(program))

    def test_the_least(self):
        self.let_by(((("k", (("a", 0),), ()),), ()))

    def test_every_deed_and_operand(self):
        self.let_by(FULL)

    def test_each_deed_in_a_rule(self):
        for deed in (
            ("set", "x", ("of", "letter")), ("set", "v", ("is", 0)), ("set", "v", ("own",)),
            ("note", ("of", "v")), ("note", ("is", True)), ("note", ("is", False)), ("note", ("own",)),
            ("make", "x", "k"), ("place", "x", ("own",), "absent"), ("place", "x", ("is", 1), "a"),
            ("lay", ("own",), ()), ("lay", ("is", 3), (("own",), ("is", 1), ("of", "x"))),
            ("put", "a", ()), ("put", "b", (("own",),)), ("put", "d", (("is", 1), ("is", 1), ("is", 1))),
            ("call", "x", ("of", "x"), ()), ("call", "x", ("own",), (("own",), ("own",), ("own",))),
            ("answer", "a", ("own",)), ("answer", "b", ("of", "v")),
        ):
            self.let_by(with_deeds(deed))

    def test_each_deed_in_main(self):
        for deed in (
            ("set", "x", ("of", "y")), ("note", ("is", 1)), ("make", "x", "k"), ("place", "x", ("of", "x"), "b"),
            ("lay", ("of", "x"), (("is", 1),)), ("call", "x", ("of", "x"), (("of", "a"), ("of", "a"), ("of", "a"))),
        ):
            self.let_by(with_main(deed))
        self.let_by(with_main(("when", ("of", "x"), 1), ("note", ("is", 1))))

    def test_each_word_of_a_let(self):
        for word in WORDS:
            self.let_by(with_deeds(("let", "x", word, ("of", "v"), ("own",))))
            self.let_by(with_main(("let", "x", word, ("of", "v"), ("is", 1))))

    def test_worths_at_the_bounds(self):
        for worth in (10 ** 9, -10 ** 9, 0, 1, True, False):
            self.let_by(with_deeds(("note", ("is", worth))))
            self.let_by(with_heads(("b", (("is", worth),))))
            self.let_by(with_main(("note", ("is", worth))))

    def test_how_many_kinds(self):
        for many in (1, 6):
            self.let_by((tuple((LETTERS[k], (("a", 0),), ()) for k in range(many)), ()))

    def test_how_many_places(self):
        for many in (1, 6):
            self.let_by(with_rules(places=tuple((LETTERS[p], 0) for p in range(many))))

    def test_how_many_things_a_letter_carries(self):
        for many in (0, 1, 2, 3):
            slots = tuple(("as", LETTERS[s]) for s in range(many))
            self.let_by(with_rules(((("a", slots),), ()), places=(("a", many),)))

    def test_how_many_rules(self):
        for many in (0, 1, 8):
            self.let_by(with_rules(*[((("a", ()),), ())] * many))

    def test_how_many_heads(self):
        heads = (("a", ()), ("b", (("as", "v"),)), ("c", (("is", 1), ("is", 1))), ("e", ()))
        for many in (1, 2, 3, 4):
            self.let_by(with_heads(*heads[:many]))

    def test_how_many_deeds(self):
        for many in (0, 1, 12):
            self.let_by(with_deeds(*[("note", ("is", 1))] * many))
        for many in (0, 1, 16):
            self.let_by(with_main(*[("note", ("is", 1))] * many))

    def test_whens_number(self):
        note = ("note", ("is", 1))
        for many in (1, 2, 11):
            self.let_by(with_deeds(("when", ("is", True), many), *[note] * many))
            self.let_by(with_deeds(("when", ("is", True), 1), *[note] * many))
        self.let_by(with_main(("when", ("of", "x"), 15), *[note] * 15))
        self.let_by(with_main(("when", ("of", "x"), 2), ("when", ("of", "x"), 1), note))

    def test_a_name_may_be_that_of_a_place_or_a_kind(self):
        self.let_by(with_rules(((("b", (("as", "b"),)),), (("set", "k", ("of", "b")),))))
        self.let_by(((("a", (("a", 0),), ()),), ()))

    def test_the_same_worth_may_be_asked_twice(self):
        self.let_by(with_heads(("b", (("is", 1),)), ("c", (("is", 1), ("is", 1)))))

    def test_the_same_name_in_two_rules(self):
        rule = ((("b", (("as", "v"),)),), ())
        self.let_by(with_rules(rule, rule))

    def test_the_same_places_in_two_kinds(self):
        self.let_by(((("k", (("a", 0),), ()), ("m", (("a", 3),), ())), ()))

    def test_a_kind_may_be_made_ahead_of_where_it_stands(self):
        rule = ((("a", ()),), (("make", "x", "last"),))
        self.let_by(((("k", (("a", 0),), (rule,)), ("last", (("a", 0),), ())), (("make", "x", "last"),)))

    def test_what_is_refused_changes_nothing(self):
        deeds = [("note", ("is", 1))]
        thing = (FULL[0], deeds)
        for _ in range(2):
            with self.assertRaises(NoProgram) as caught:
                look_at_program(thing)
            self.assertEqual((caught.exception.kind, caught.exception.rule, caught.exception.deed), (None,) * 3)
        self.assertEqual(deeds, [("note", ("is", 1))])
        self.let_by(FULL)


class KindsAndMain(unittest.TestCase):
    def test_each_kind_by_its_name(self):
        for at, name in enumerate(("shop", "idle", "desk")):
            self.assertEqual(kind_of(FULL, name), FULL[0][at])
            self.assertIs(type(kind_of(FULL, name)), tuple)

    def test_a_name_put_together(self):
        self.assertEqual(kind_of(FULL, "".join(["sh", "op"])), FULL[0][0])

    def test_no_kind_of_anything_else(self):
        for thing in (*JUNK, "ask", "shops", "Shop", "s", 0, 1, True, (), ("shop",), ["shop"], FULL, FULL[0][0]):
            with self.assertRaises(NoKind) as caught:
                kind_of(FULL, thing)
            self.assertIs(caught.exception.thing, thing)

    def test_main(self):
        self.assertEqual(main_of(FULL), FULL[1])
        self.assertIs(type(main_of(FULL)), tuple)
        self.assertEqual(main_of(with_main()), ())

    def test_what_is_no_program_goes_first(self):
        for program in (None, (), ((), ()), (FULL[0],), list(FULL)):
            with self.assertRaises(NoProgram):
                kind_of(program, None)
            with self.assertRaises(NoProgram):
                main_of(program)

    def test_arguments_by_name(self):
        self.assertIsNone(look_at_program(thing=FULL))
        self.assertEqual(kind_of(name="idle", program=FULL), FULL[0][1])
        self.assertEqual(main_of(program=FULL), FULL[1])


if __name__ == "__main__":
    unittest.main()
