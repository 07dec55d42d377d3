"""Points 11 and 12: spots, the spot of a letter, and the parted rules."""

import itertools
import unittest

from waitedmeets.errors import NoKind, NoProgram, TooMany
from waitedmeets.meetings import fits
from waitedmeets.parting import parted_rules, spot_of, spots_of
from waitedmeets.programs import kind_of
from waitedmeets.stands import Stand

from drawn import draw_program, walked
from samples import BOXED, FULL, JUNK, Thing, head, kind, of_spots, rule

SEVERAL = kind(
    "k", "a2 b0 c1 d1",
    rule([head("c", 5), head("a", 3, "v")]),
    rule([head("a", True, -1)]),
    rule([head("a", -2, False), "b"]),
    rule([head("a", 3, 1), head("c", 1)]),
    rule([head("c", True)]),
    rule([head("c", "v"), head("a", "x", "y")]),
    rule([head("c", False)]),
    rule([head("c", 0)]),
)


class Spots(unittest.TestCase):
    def test_several_constants(self):
        first = (-2, 3, True, None)
        second = (-1, 1, False, None)
        wanted = [("a", (one, other)) for one in first for other in second]
        wanted += [("b", ())] + [("c", (one,)) for one in (0, 1, 5, False, True, None)] + [("d", (None,))]
        got = spots_of(((SEVERAL,), ()), "k")
        self.assertEqual(repr(got), repr(wanted))
        self.assertEqual(len(got), 24)

    def test_numbers_and_truths_of_the_same_worth(self):
        k = kind("k", "a1", rule([head("a", True)]), rule([head("a", 0)]), rule([head("a", False)]), rule([head("a", 1)]))
        self.assertEqual(repr(spots_of(((k,), ()), "k")),
                         repr([("a", (worth,)) for worth in (0, 1, False, True, None)]))

    def test_each_constant_once(self):
        k = kind("k", "a1 b1", rule([head("a", 4)]), rule([head("a", 4), head("b", 4)]), rule([head("a", 2)]))
        self.assertEqual(spots_of(((k,), ()), "k"), [("a", (2,)), ("a", (4,)), ("a", (None,)), ("b", (4,)), ("b", (None,))])

    def test_places_without_slots_and_without_rules(self):
        k = kind("k", "z0 a3 m1")
        self.assertEqual(spots_of(program=((k,), ()), name="k"), [("z", ()), ("a", (None,) * 3), ("m", (None,))])

    def test_the_first_slot_changes_last(self):
        k = kind("k", "a3", rule([head("a", 1, 2, 3)]))
        wanted = [("a", row) for row in itertools.product((1, None), (2, None), (3, None))]
        self.assertEqual(spots_of(((k,), ()), "k"), wanted)

    def test_other_kinds_do_not_count(self):
        other = kind("l", "a1", rule([head("a", 9)]))
        program = ((kind("k", "a1", rule([head("a", 1)])), other), ())
        self.assertEqual(spots_of(program, "k"), [("a", (1,)), ("a", (None,))])
        self.assertEqual(spots_of(program, "l"), [("a", (9,)), ("a", (None,))])

    def test_told_anew(self):
        program = ((SEVERAL,), ())
        spots_of(program, "k").clear()
        self.assertEqual(len(spots_of(program, "k")), 24)


class SpotOf(unittest.TestCase):
    def test_by_what_is_given(self):
        program = ((SEVERAL,), ())
        for given, number in (
            ((-2, -1), 0), ((-2, 7), 3), ((3, 1), 5), ((True, False), 10), ((1, 0), 15), ((False, True), 15),
            ((3, ("lot", 3)), 7), ((("place", 0, "a"), -1), 12),
        ):
            self.assertEqual(spot_of(program, "k", "a", given), number, given)
        self.assertEqual(spot_of(program, "k", "b", ()), 16)
        for worth, number in ((0, 17), (1, 18), (5, 19), (False, 20), (True, 21), (2, 22), (("lot", 1), 22)):
            self.assertEqual(spot_of(program, "k", "c", (worth,)), number)
        self.assertEqual(spot_of(given=(0,), place="d", name="k", program=program), 23)


class PartedRules(unittest.TestCase):
    def test_by_hand(self):
        self.assertEqual(parted_rules(((SEVERAL,), ()), "k"), (
            ((19,), (4, 5, 6, 7)),
            ((8,),),
            ((2,), (16,)),
            ((5,), (18,)),
            ((21,),),
            ((17, 18, 19, 20, 21, 22), tuple(range(16))),
            ((20,),),
            ((17,),),
        ))

    def test_no_rules(self):
        self.assertEqual(parted_rules(((kind("k", "a0"),), ()), "k"), ())

    def test_by_name(self):
        self.assertEqual(parted_rules(name="box", program=BOXED), (((0,), (1,)),))


class Refused(unittest.TestCase):
    ASKED = (
        lambda program, name: spots_of(program, name),
        lambda program, name: spot_of(program, name, "a", (1, 1)),
        lambda program, name: parted_rules(program, name),
    )

    def test_no_kind(self):
        for asked in self.ASKED:
            for thing in ("k", "put", "", None, 0, True, [], {}, ("box",), b"box", Thing(), BOXED[0][0]):
                with self.assertRaises(NoKind) as caught:
                    asked(BOXED, thing)
                self.assertIs(caught.exception.thing, thing)

    def test_no_program_ahead_of_no_kind(self):
        for asked in self.ASKED:
            for thing in JUNK:
                for name in ("k", None):
                    with self.assertRaises(NoProgram):
                        asked(thing, name)

    def test_24_and_25_spots(self):
        for asked in self.ASKED:
            asked(of_spots(24), "k")
            for many in (25, 27):
                with self.assertRaises(TooMany) as caught:
                    asked(of_spots(many), "k")
                self.assertEqual(caught.exception.many, many)
        self.assertEqual(len(spots_of(of_spots(24), "k")), 24)
        self.assertEqual(spots_of(of_spots(25), "l"), [("a", ())])

    def test_very_many(self):
        rules = [rule([head("a", n, n, n), head("b", n, n, n), head("c", n, n, n), head("d", n, n, n)]) for n in range(8)]
        with self.assertRaises(TooMany) as caught:
            spots_of(((kind("k", "a3 b3 c3 d3 e0 f0", *rules),), ()), "k")
        self.assertEqual(caught.exception.many, 4 * 9 ** 3 + 2)


class Fitting(unittest.TestCase):
    WORTHS = (-2, -1, 0, 1, 3, True, False, ("lot", 1), ("place", 1, "a"))

    def looked_at(self, program, name):
        """Each letter of small worths fits a head just where its spot is one of the head's."""
        own = kind_of(program, name)
        parted = parted_rules(program, name)
        self.assertEqual([len(heads) for heads, _ in own[2]], [len(row) for row in parted])
        for place, many in own[1]:
            for given in itertools.product(self.WORTHS, repeat=many):
                spot = spot_of(program, name, place, given)
                self.assertEqual(spots_of(program, name)[spot][0], place)
                for (heads, _), row in zip(own[2], parted):
                    for one, spots in zip(heads, row):
                        self.assertEqual(fits((0, place, given, None), one), spot in spots)
                        self.assertEqual(list(spots), sorted(set(spots)))

    def test_by_hand(self):
        self.looked_at(((SEVERAL,), ()), "k")
        for one in FULL[0]:
            self.looked_at(FULL, one[0])

    def test_drawn_kinds(self):
        for seed in range(40):
            program = draw_program(seed)
            for one in program[0]:
                if one[0] in "kl":
                    try:
                        spots_of(program, one[0])
                    except TooMany:
                        continue
                    self.looked_at(program, one[0])

    def test_the_set_of_spots_tells_which_rules_can_meet(self):
        for seed in range(60):
            program = draw_program(seed)
            for stand in walked(Stand(program), seed, 15):
                for lot, name in enumerate(stand.lots()):
                    spots = {spot_of(program, name, letter[1], letter[2]) for letter in stand.heap(lot)}
                    able = [number for number, row in enumerate(parted_rules(program, name))
                            if all(spots & set(part) for part in row)]
                    told = sorted({step[2] for step in stand.steps() if step[:2] == ("meet", lot)})
                    self.assertEqual(able, told)


if __name__ == "__main__":
    unittest.main()
