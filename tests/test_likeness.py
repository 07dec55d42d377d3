"""Point 24: two tellers alike, or parted by a row of letters."""

import itertools
import random
import unittest

from waitedmeets.errors import MeetError, NoNumber, NoTeller, Unlike
from waitedmeets.likeness import lets_likeness, likeness
from waitedmeets.tellers import told_by

from drawn import draw_teller
from samples import BOX, JUNK, OWN, Thing, isw, kind, rule


def notes(*worths):
    return [("note", isw(worth)) for worth in worths]


BOTH = kind("k", "a0 b0", rule(["a", "b"], *notes(1)))
TURNED = kind("l", "b0 a0", rule(["b", "a"], *notes(1)))
SILENT = kind("k", "a0 b0", rule(["a", "b"]))
NONE = kind("k", "a0 b0")
AGAIN = kind("k", "a0 b0", rule(["a", "b"], *notes(1)), rule(["a", "b"], *notes(2)))
LEFT_A = kind("k", "a0 b0 c0", rule(["b", "c"]), rule(["a", "b"], *notes(1)))
LEFT_B = kind("k", "a0 b0 c0", rule(["a", "c"]), rule(["a", "b"], *notes(1)))


def heaps_and_notes(teller, row):
    """The heaps behind each letter of a row, and the notes."""
    return [told_by(teller, row[:many + 1])[1] for many in range(len(row))], told_by(teller, row)[0]


def parts_by_hand(one, other, row, within):
    """Point 24 once more, by what tellers tell alone."""
    if not row:
        return False
    heaps, told = heaps_and_notes(one, row)
    others, told_beside = heaps_and_notes(other, row)
    if max(many for heap in heaps + others for many in heap) > within:
        return False
    same = [repr(here) == repr(there) for here, there in zip(told, told_beside)]
    return same == [True] * (len(row) - 1) + [False]


def shortest_by_hand(one, other, within, most):
    """How long the shortest row is that parts two tellers; None where none of so many letters does."""
    words = [word for word, _ in one[1]]
    for many in range(1, most + 1):
        if any(parts_by_hand(one, other, list(row), within) for row in itertools.product(words, repeat=many)):
            return many
    return None


class Parted(unittest.TestCase):
    def test_by_hand(self):
        for one, other, within, rows in (
            (BOTH, SILENT, 1, (["a", "b"], ["b", "a"])), (BOTH, NONE, 1, (["a", "b"], ["b", "a"])),
            (BOTH, kind("k", "a0 b0", rule(["a", "b"], *notes(1, 1))), 1, (["a", "b"], ["b", "a"])),
            (kind("k", "a0", rule(["a"], *notes(1))), kind("k", "a0"), 1, (["a"],)),
            (kind("k", "a0 b0", rule(["a"], *notes(1))), kind("k", "b0 a0", rule(["b"], *notes(1))), 1, (["a"], ["b"])),
        ):
            told = likeness(one, other, within=within)
            self.assertEqual(told[0], "parted")
            self.assertIn(told[1], rows)
            self.assertIs(lets_likeness(one, other, told, within=within), True)

    def test_notes_of_truths_apart_from_notes_of_numbers(self):
        for worth, beside in ((1, True), (0, False), (True, 1), (False, 0)):
            one = kind("k", "a0", rule(["a"], *notes(worth)))
            other = kind("k", "a0", rule(["a"], *notes(beside)))
            self.assertEqual(likeness(one, other), ("parted", ["a"]))
            self.assertEqual(likeness(one, one)[0], "alike")

    def test_rows_of_more_letters(self):
        one = kind("k", "a0 b0 c0 d0", rule(["a", "b", "c", "d"], *notes(1)))
        other = kind("k", "d0 c0 b0 a0", rule(["a", "b", "c", "d"], *notes(2)))
        told = likeness(one, other)
        self.assertEqual((told[0], sorted(told[1])), ("parted", ["a", "b", "c", "d"]))

    def test_what_is_left_behind_a_rule_without_notes(self):
        one = kind("k", "a0 b0", rule(["a", "b"]))
        other = kind("k", "a0 b0", rule(["b"]))
        # Behind "a", "b" one has no letter, the other one a; but neither ever notes.
        for within in (1, 2, 3):
            self.assertEqual(likeness(one, other, within=within)[0], "alike")
        one = kind("k", "a0 b0 c0", rule(["a", "b"]), rule(["a", "c"], *notes(1)))
        other = kind("k", "a0 b0 c0", rule(["b"]), rule(["a", "c"], *notes(1)))
        self.assertEqual(likeness(one, other), ("parted", ["a", "b", "c"]))

    def test_rows_by_which_more_would_lie_there_are_left_out(self):
        self.assertIs(lets_likeness(BOTH, NONE, ("parted", ["a", "a", "b"])), False)
        self.assertIs(lets_likeness(BOTH, NONE, ("parted", ["a", "a", "b"]), within=2), True)
        # The one that goes on is left at a, the other at b: whichever comes next would lie there twice in one of them.
        told = likeness(LEFT_A, LEFT_B)
        self.assertEqual(told[0], "alike")
        self.assertIn(((1, 0, 0), (0, 1, 0)), told[1])
        for within in (2, 3):
            word, row = likeness(LEFT_A, LEFT_B, within=within)
            self.assertEqual((word, len(row)), ("parted", 4))
            self.assertIs(lets_likeness(LEFT_A, LEFT_B, ("parted", row), within=within), True)
            self.assertIs(lets_likeness(LEFT_A, LEFT_B, ("parted", row)), False)
        self.assertIs(lets_likeness(LEFT_A, LEFT_B, ("parted", ["c", "b", "a", "a"])), False)
        self.assertIs(lets_likeness(LEFT_A, LEFT_B, ("parted", ["c", "b", "a", "a"]), within=2), True)


class Within(unittest.TestCase):
    def test_bounds(self):
        for within in (1, 2, 3):
            self.assertEqual(likeness(BOTH, TURNED, within=within)[0], "alike")
            self.assertIs(lets_likeness(BOTH, TURNED, likeness(BOTH, TURNED, within=within), within=within), True)
        for thing in (0, 4, -1, True, False, None, "1", (1,), [1], {}, b"1", 10 ** 59, Thing()):
            with self.assertRaises(NoNumber):
                likeness(BOTH, TURNED, within=thing)
            with self.assertRaises(NoNumber):
                lets_likeness(BOTH, TURNED, None, within=thing)

    def test_one_where_none_is_told(self):
        self.assertEqual(likeness(BOTH, BOTH), likeness(BOTH, BOTH, within=1))
        table = likeness(BOTH, BOTH)
        self.assertIs(lets_likeness(BOTH, BOTH, table), True)
        self.assertIs(lets_likeness(BOTH, BOTH, table, within=2), False)

    def test_by_name_alone(self):
        with self.assertRaises(TypeError):
            likeness(BOTH, TURNED, 1)
        with self.assertRaises(TypeError):
            lets_likeness(BOTH, TURNED, None, 1)
        self.assertEqual(likeness(within=2, other=TURNED, one=BOTH)[0], "alike")
        self.assertIs(lets_likeness(within=2, thing=None, other=TURNED, one=BOTH), False)

    def test_what_parts_within_less_parts_within_more(self):
        found = []
        rng = random.Random(11)
        for _ in range(400):
            many = rng.randint(2, 3)
            one, other = draw_teller(rng, many), draw_teller(rng, many)
            words = [likeness(one, other, within=within)[0] for within in (1, 2, 3)]
            self.assertEqual(words, sorted(words))
            found.append(tuple(words))
        self.assertIn(("alike", "alike", "alike"), found)
        self.assertIn(("parted", "parted", "parted"), found)

    def test_within_1_and_2(self):
        self.assertEqual([likeness(LEFT_A, LEFT_B, within=within)[0] for within in (1, 2, 3)], ["alike", "parted", "parted"])


class Alike(unittest.TestCase):
    def test_by_hand(self):
        told = likeness(BOTH, TURNED)
        self.assertEqual(told[0], "alike")
        self.assertEqual(sorted(told[1]), [((0, 0), (0, 0)), ((0, 1), (1, 0)), ((1, 0), (0, 1))])
        self.assertEqual(sorted(likeness(NONE, NONE)[1]), [(heap, heap) for heap in itertools.product((0, 1), repeat=2)])

    def test_rules_that_never_go_off(self):
        self.assertEqual(likeness(BOTH, AGAIN, within=3)[0], "alike")
        self.assertEqual(likeness(BOTH, kind("k", "a0 b0", *BOTH[2], rule(["b", "a"])), within=3)[0], "alike")

    def test_rules_in_another_order(self):
        rules = (rule(["a", "b"], *notes(1)), rule(["c"], *notes(2)))
        one = kind("k", "a0 b0 c0", *rules)
        self.assertEqual(likeness(one, kind("k", "c0 b0 a0", *rules[::-1]), within=2)[0], "alike")
        rules = (rule(["a", "b"], *notes(1)), rule(["b"], *notes(2)))
        told = likeness(kind("k", "a0 b0", *rules), kind("k", "b0 a0", *rules[::-1]))
        self.assertEqual(told, ("parted", ["a", "b"]))

    def test_kinds_of_what_is_told(self):
        told = likeness(NONE, NONE)
        self.assertIs(type(told[1]), list)
        self.assertEqual({type(pair) for pair in told[1]}, {tuple})

    def test_told_anew(self):
        told = likeness(BOTH, TURNED)
        told[1].clear()
        self.assertEqual(len(likeness(BOTH, TURNED)[1]), 3)
        told = likeness(BOTH, NONE)
        told[1].append("a")
        self.assertEqual(len(likeness(BOTH, NONE)[1]), 2)


class Lets(unittest.TestCase):
    TABLE = [((0, 0), (0, 0)), ((0, 1), (1, 0)), ((1, 0), (0, 1))]

    def lets(self, thing, one=BOTH, other=TURNED, within=1):
        told = lets_likeness(one, other, thing, within=within)
        self.assertIsInstance(told, bool)
        return told

    def test_pairs_in_any_order(self):
        for pairs in itertools.permutations(self.TABLE):
            self.assertIs(self.lets(("alike", list(pairs))), True)

    def test_pairs_fewer_twice_others(self):
        for at in range(3):
            self.assertIs(self.lets(("alike", self.TABLE[:at] + self.TABLE[at + 1:])), False)
            self.assertIs(self.lets(("alike", [*self.TABLE, self.TABLE[at]])), False)
            self.assertIs(self.lets(("alike", [*self.TABLE[:at], ((0, 0), (1, 0)), *self.TABLE[at + 1:]])), False)
        self.assertIs(self.lets(("alike", [])), False)

    def test_pairs_more(self):
        # From ((0, 0), (1, 0)) a letter at a is noted by one alone.
        self.assertIs(self.lets(("alike", [*self.TABLE, ((0, 0), (1, 0))])), False)
        # Wherever a letter comes more than one would lie at a place: nothing is asked of this pair.
        self.assertIs(self.lets(("alike", [*self.TABLE, ((2, 2), (2, 2))])), True)
        self.assertIs(self.lets(("alike", [*self.TABLE, ((9, 9), (0, 9))])), True)

    def test_a_letter_more_that_is_taken_at_once(self):
        # The rule that goes off leaves no more than one at a place, so that what is behind it is asked for.
        self.assertIs(self.lets(("alike", [*self.TABLE, ((1, 1), (1, 1))])), True)
        self.assertIs(self.lets(("alike", [*self.TABLE, ((1, 1), (2, 1))])), False)
        self.assertIs(self.lets(("alike", [*self.TABLE, ((1, 1), (2, 2))])), True)

    def test_pairs_that_are_none(self):
        for pair in (((0, 0), (0, True)), ((False, 0), (0, 0)), ((0, 0), (0, -1)), ((0, 0), (0,)), ((0, 0, 0), (0, 0)),
                     ((0, 0),), ((0, 0), (0, 0), (0, 0)), [(0, 0), (9, 9)], ([9, 9], (9, 9)), ((9, 9), [9, 9]), None, 5,
                     "ab", (None, None), ((0, "1"), (1, 0)), Thing(), {}, (0, 0), ((9, None), (9, 9))):
            self.assertIs(self.lets(("alike", [*self.TABLE, pair])), False)

    def test_truths_for_numbers(self):
        self.assertIs(self.lets(("alike", [self.TABLE[0], ((0, True), (1, 0)), self.TABLE[2]])), False)
        self.assertIs(self.lets(("alike", [((False, 0), (0, 0)), *self.TABLE[1:]])), False)

    def test_rows_as_short_as_can_be_and_longer_ones(self):
        for row in (["a", "b"], ["b", "a"]):
            self.assertIs(self.lets(("parted", row), BOTH, SILENT), True)
        for row in (["a", "a", "b"], ["b", "b", "a"], ["a", "a", "a", "b"], ["a", "b", "a", "b"]):
            self.assertIs(self.lets(("parted", row), BOTH, SILENT), False)
        self.assertIs(self.lets(("parted", ["a", "a", "b"]), BOTH, SILENT, 2), True)
        self.assertIs(self.lets(("parted", ["a", "a", "a", "b"]), BOTH, SILENT, 3), True)
        self.assertIs(self.lets(("parted", ["a", "a", "a", "b"]), BOTH, SILENT, 2), False)

    def test_rows_that_do_not_part(self):
        for row in ([], ["a"], ["b"], ["a", "a"], ["a", "b", "a"], ["a", "b", "b"]):
            for within in (1, 2, 3):
                self.assertIs(self.lets(("parted", row), BOTH, SILENT, within), False, row)
        for many in range(4):
            for row in itertools.product("ab", repeat=many):
                self.assertIs(self.lets(("parted", list(row)), within=3), False)

    def test_rows_that_are_none(self):
        for row in (("a", "b"), "ab", None, ["a", "c"], ["a", b"b"], ["a", None], ["a", ["b"]], {"a": 1, "b": 2}, 0,
                    ["a", 1], ["a", True], [Thing()], ["a", ("b",)], ["A", "b"]):
            self.assertIs(self.lets(("parted", row), BOTH, SILENT), False)

    def test_other_forms(self):
        for thing in (*JUNK, (), 0, True, ("alike",), ("alike", self.TABLE, []), ["alike", self.TABLE], ("alike", None),
                      ("alike", tuple(self.TABLE)), ("like", self.TABLE), (None, self.TABLE), ([], self.TABLE),
                      ("parted", self.TABLE), ("alike", {}), ("alike", 5), ({}, {})):
            self.assertIs(self.lets(thing), False)
        self.assertIs(self.lets(["parted", ["a", "b"]], BOTH, SILENT), False)
        self.assertIs(self.lets(("alike", ["a", "b"]), BOTH, SILENT), False)

    def test_what_is_handed_in_stays(self):
        table = list(self.TABLE)
        self.lets(("alike", table))
        row = ["a", "b"]
        self.lets(("parted", row), BOTH, SILENT)
        self.assertEqual((table, row), (self.TABLE, ["a", "b"]))


class Drawn(unittest.TestCase):
    def pairs(self, many):
        rng = random.Random(3)
        for _ in range(many):
            places = rng.randint(1, 3)
            one = draw_teller(rng, places)
            if rng.random() < 0.4:
                # Nearly the same one: a rule left out, or two exchanged.
                rules = list(one[2])
                rng.shuffle(rules)
                other = (one[0], one[1][::-1], tuple(rules[:rng.randint(max(len(rules) - 1, 0), len(rules))]))
            else:
                other = draw_teller(rng, places)
            yield one, other, rng.randint(1, 3)

    def test_a_row_as_short_as_can_be(self):
        words = []
        for one, other, within in self.pairs(150):
            told = likeness(one, other, within=within)
            words.append(told[0])
            self.assertIs(lets_likeness(one, other, told, within=within), True)
            if told[0] == "parted":
                self.assertTrue(parts_by_hand(one, other, told[1], within))
                if len(told[1]) <= 5:
                    self.assertEqual(shortest_by_hand(one, other, within, 5), len(told[1]))
            else:
                self.assertIsNone(shortest_by_hand(one, other, within, 4))
        self.assertGreater(words.count("alike"), 30)
        self.assertGreater(words.count("parted"), 30)

    def test_lets_by_as_by_hand(self):
        for one, other, within in self.pairs(40):
            words = [word for word, _ in one[1]]
            for many in range(5):
                for row in itertools.product(words, repeat=many):
                    self.assertIs(lets_likeness(one, other, ("parted", list(row)), within=within),
                                  parts_by_hand(one, other, list(row), within))

    def test_a_table_with_a_pair_less_is_none(self):
        for one, other, within in self.pairs(60):
            word, pairs = likeness(one, other, within=within)
            if word == "alike":
                self.assertEqual(len(set(pairs)), len(pairs))
                for at in range(min(len(pairs), 12)):
                    self.assertIs(lets_likeness(one, other, ("alike", pairs[:at] + pairs[at + 1:]), within=within), False)

    def test_a_table_of_parted_ones_is_none(self):
        """All pairs that letters with the same notes lead to: a table would be, if they weren't parted."""
        for one, other, within in self.pairs(60):
            if likeness(one, other, within=within)[0] == "parted":
                words = [word for word, _ in one[1]]
                rows = [list(row) for many in range(4) for row in itertools.product(words, repeat=many)]
                pairs = {(told_by(one, row)[1], told_by(other, row)[1]) for row in rows}
                self.assertIs(lets_likeness(one, other, ("alike", sorted(pairs)), within=within), False)


class Refused(unittest.TestCase):
    def both(self, error, *things, within=1):
        with self.assertRaises(error):
            likeness(*things, within=within)
        with self.assertRaises(error):
            lets_likeness(*things, None, within=within)

    def test_no_teller(self):
        for thing in (*JUNK, BOX, (), 0, kind("k", "a0 b0", rule(["a"], ("note", OWN)))):
            for within in (1, 0):
                self.both(NoTeller, thing, BOTH, within=within)
                self.both(NoTeller, BOTH, thing, within=within)
                self.both(NoTeller, thing, kind("k", "z0"), within=within)
                self.both(NoTeller, thing, thing, within=within)

    def test_unlike(self):
        for places in ("a0", "a0 c0", "a0 b0 c0", "ab0"):
            for within in (1, 0, None):
                self.both(Unlike, BOTH, kind("k", places), within=within)
                self.both(Unlike, kind("k", places), BOTH, within=within)

    def test_under_meet_error(self):
        for error in (NoTeller, Unlike, NoNumber):
            self.assertTrue(issubclass(error, MeetError))


if __name__ == "__main__":
    unittest.main()
