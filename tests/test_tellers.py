"""Point 23: tellers, and the notes behind each letter of a row."""

import random
import unittest

from waitedmeets.errors import NoRow, NoTeller
from waitedmeets.runner import Runner
from waitedmeets.tellers import is_teller, told_by

from drawn import draw_teller
from samples import BOX, BOXED, FULL, JUNK, OWN, Thing, isw, kind, lay, lot_at, of, rule

NOTE = ("note", isw(1))
TELLER = kind(
    "k", "a0 b0 c0",
    rule(["a", "b"], ("note", isw(1)), ("note", isw(True))),
    rule(["b", "c"], ("note", isw(-5))),
    rule(["c", "a"]),
    rule(["a", "b", "c"], ("note", isw(7))),
)


class IsTeller(unittest.TestCase):
    def test_tellers(self):
        for thing in (TELLER, kind("k", "a0"), kind("k", "a0", rule(["a"])), kind("k", "a0 b0", rule(["a"], NOTE)),
                      kind("k", "a0", rule(["a"], *[("note", isw(False))] * 12)),
                      kind("k", "a0 b0 c0 d0 e0 f0", *[rule(["f", "a", "c", "b"], ("note", isw(10 ** 9)))] * 8)):
            self.assertIs(is_teller(thing), True)
        self.assertIs(is_teller(thing=TELLER), True)

    def test_a_place_whose_letters_carry_something(self):
        for many in (1, 2, 3):
            self.assertIs(is_teller(kind("k", f"a0 b{many}", rule(["a"], NOTE))), False)
            self.assertIs(is_teller(kind("k", f"b{many}")), False)

    def test_a_deed_of_another_word(self):
        for deed in (("set", "x", isw(1)), ("put", "a", ()), ("let", "x", "plus", isw(1), isw(1)), ("make", "x", "k"),
                     ("place", "x", OWN, "a"), ("lay", OWN, ()), ("call", "x", OWN, ()), ("answer", "a", isw(1))):
            self.assertIs(is_teller(kind("k", "a0", rule(["a"], deed))), False, deed)
            self.assertIs(is_teller(kind("k", "a0 b0", rule(["b"], NOTE), rule(["a"], NOTE, deed))), False, deed)
        self.assertIs(is_teller(kind("k", "a0", rule(["a"], ("when", isw(True), 1), NOTE))), False)

    def test_a_note_that_is_not_written(self):
        for operand in (of("x"), OWN):
            self.assertIs(is_teller(kind("k", "a0", rule(["a"], ("note", operand)))), False)
            self.assertIs(is_teller(kind("k", "a0", rule(["a"], NOTE), rule(["a"], NOTE, ("note", operand)))), False)

    def test_no_kinds(self):
        for thing in (*JUNK, 0, True, (), TELLER[:2], (*TELLER, ()), list(TELLER), ("K", *TELLER[1:]), ("k", (), ()),
                      ("k", (("a", False),), ()), ("k", (("a", 0), ("a", 0)), ()), ("k", (["a", 0],), ()),
                      ("k", (("a", 0),), [rule(["a"])]), ("k", (("a", 0),), (rule(["b"]),)), ((TELLER,), ()), FULL, BOX,
                      ("k", (("a", 0),), (rule(["a"], None),)), ("k", (("a", 0),), (rule(["a"]),) * 9), BOXED,
                      kind("k", "a0", rule(["a"], *[NOTE] * 13)), kind("k", "a0", rule(["a"], ("note", isw(None)))),
                      kind("k", "a0", rule(["a"], ("note", isw(10 ** 9 + 1)))), kind("k", "a0", rule([]))):
            self.assertIs(is_teller(thing), False)


class ToldBy(unittest.TestCase):
    def told(self, row, teller=TELLER):
        return repr(told_by(teller, row))

    def test_by_hand(self):
        self.assertEqual(self.told([]), "([], (0, 0, 0))")
        self.assertEqual(self.told(["a"]), "([()], (1, 0, 0))")
        self.assertEqual(self.told(["a", "a", "b"]), "([(), (), (1, True)], (1, 0, 0))")
        self.assertEqual(self.told(["b", "b", "c", "a"]), "([(), (), (-5,), (1, True)], (0, 0, 0))")
        self.assertEqual(self.told(["c", "c", "a", "b"]), "([(), (), (), (-5,)], (0, 0, 0))")

    def test_the_first_rule_that_can(self):
        # Behind b both of the first rules could; a later one with more heads never goes off.
        first = rule(["a", "b"], NOTE)
        second = rule(["b"], ("note", isw(2)))
        self.assertEqual(told_by(kind("k", "a0 b0", first, second), ["b", "a", "b"]), ([(2,), (), (1,)], (0, 0)))
        self.assertEqual(told_by(kind("k", "a0 b0", second, first), ["b", "a", "b"]), ([(2,), (), (2,)], (1, 0)))

    def test_a_rule_takes_one_letter_of_each_head_alone(self):
        teller = kind("k", "a0 b0", rule(["a", "b"], NOTE))
        self.assertEqual(told_by(teller, ["a", "a", "a", "b"]), ([(), (), (), (1,)], (2, 0)))

    def test_one_rule_alone_behind_each_letter(self):
        teller = kind("k", "a0 b0", rule(["a"], NOTE))
        self.assertEqual(told_by(teller, ["b", "a", "a"]), ([(), (1,), (1,)], (0, 1)))

    def test_truths_and_numbers(self):
        teller = kind("k", "a0 b0", rule(["a"], ("note", isw(True)), ("note", isw(1))), rule(["b"], ("note", isw(False))))
        self.assertEqual(self.told(["a", "b"], teller), "([(True, 1), (False,)], (0, 0))")

    def test_without_rules(self):
        self.assertEqual(told_by(kind("k", "b0 a0"), ["a", "a", "b"]), ([(), (), ()], (1, 2)))

    def test_arguments_by_their_names(self):
        self.assertEqual(told_by(row=["a"], teller=TELLER), ([()], (1, 0, 0)))

    def test_told_anew_and_the_row_stays(self):
        row = ["a", "b"]
        told_by(TELLER, row)[0].clear()
        self.assertEqual(row, ["a", "b"])
        self.assertEqual(told_by(TELLER, row), ([(), (1, True)], (0, 0, 0)))

    def test_beside_a_runner(self):
        """A runner whose main lays the row notes the same, and has the same heap."""
        rng = random.Random(7)
        for _ in range(150):
            teller = draw_teller(rng, rng.randint(1, 4))
            words = [place for place, _ in teller[1]]
            row = [rng.choice(words) for _ in range(rng.randint(0, 9))]
            runner = Runner(((teller,), (*lot_at("m", teller[0], words), *[lay(word) for word in row])))
            while runner.ready():
                # The bodies of rules go ahead of main's next letter, so that the notes come in its order.
                runner.go(runner.ready()[-1])
            told, heap = told_by(teller, row)
            self.assertEqual(repr([note for notes in told for note in notes]), repr(runner.notes()))
            places = [letter[1] for letter in runner.heap(0)]
            self.assertEqual(heap, tuple(places.count(word) for word in words))


class Refused(unittest.TestCase):
    def test_no_teller_goes_first(self):
        for thing in (*JUNK, BOX, (), 0, kind("k", "a0", rule(["a"], ("note", OWN)))):
            for row in ([], ["a"], None):
                with self.assertRaises(NoTeller):
                    told_by(thing, row)

    def test_no_row(self):
        for thing in (*[junk for junk in JUNK if junk != []], 0, True, (), ("a",), "a", "abc", ["d"], ["a", "z"], [""],
                      ["A"], [None], ["a", 0], [0], [["a"]], [("a",)], [{}], [b"a"], [Thing()], {"a": 1}, ["ab"], [True]):
            with self.assertRaises(NoRow):
                told_by(TELLER, thing)


if __name__ == "__main__":
    unittest.main()
