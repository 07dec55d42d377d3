"""Points 6 and 7: lots, letters, bodies and their numbers; the steps of a stand, and what is none."""

import unittest

from waitedmeets.errors import NoBody, NoLot, NoProgram, NoStep
from waitedmeets.stands import Stand

from drawn import draw_program, walked
from samples import BOXED, FULL, JUNK, Thing, all_gone, gone, head, isw, kind, lay, lot_at, of, rule


def told(stand):
    """All that a stand tells, as a text, in which truths and numbers are told apart."""
    heaps = [stand.heap(lot) for lot in range(len(stand.lots()))]
    names = [sorted(stand.names(body[0]).items()) for body in stand.bodies()]
    return repr((
        stand.steps(), stand.lots(), heaps, stand.bodies(), names, stand.notes(), stand.faults(), stand.done(),
        len(stand), stand.seen(),
    ))


class AtFirst(unittest.TestCase):
    def test_body_of_main(self):
        stand = Stand(BOXED)
        self.assertEqual(stand.bodies(), [(0, None, 6, False)])
        self.assertEqual(stand.names(0), {})
        self.assertEqual(stand.steps(), [("go", 0)])
        self.assertEqual((stand.lots(), stand.notes(), stand.faults(), stand.done()), ([], [], [], []))
        self.assertEqual(len(stand), 0)

    def test_no_body_where_main_has_no_deeds(self):
        stand = Stand(((kind("k", "a0"),), ()))
        self.assertEqual((stand.bodies(), stand.steps()), ([], []))
        with self.assertRaises(NoBody):
            stand.names(0)

    def test_no_program(self):
        for thing in (*JUNK, (), ((), ()), (BOXED[0],), list(BOXED)):
            with self.assertRaises(NoProgram) as caught:
                Stand(thing)
            self.assertEqual((caught.exception.kind, caught.exception.rule, caught.exception.deed), (None,) * 3)
        with self.assertRaises(NoProgram) as caught:
            Stand(program=(BOXED[0], (("note", isw(1)), ("note", ("own",)))))
        self.assertEqual(caught.exception.deed, 1)

    def test_every_deed_is_taken(self):
        self.assertEqual(Stand(FULL).bodies(), [(0, None, 8, False)])


class Numbers(unittest.TestCase):
    def test_lots_letters_bodies_as_they_come(self):
        pair = kind("pair", "a0 b0", rule(["a", "b"], ("note", ("own",)), ("put", "a", ())))
        main = (*lot_at("x", "pair", "ab"), lay("b"), lay("a"), *lot_at("y", "pair", "ab"), lay("a"), lay("b"))
        stand = gone(Stand(((pair,), main)), 0, 10)
        self.assertEqual(stand.lots(), ["pair", "pair"])
        self.assertEqual(stand.heap(0), [(0, "b", (), None), (1, "a", (), None)])
        self.assertEqual(stand.heap(1), [(2, "a", (), None), (3, "b", (), None)])
        self.assertEqual(stand.bodies(), [])
        stand.do(("meet", 1, 0, (2, 3)))
        stand.do(("meet", 0, 0, (1, 0)))
        self.assertEqual(stand.bodies(), [(1, 1, 2, False), (2, 0, 2, False)])
        gone(gone(stand, 2, 2), 1, 2)
        self.assertEqual(stand.notes(), [("lot", 0), ("lot", 1)])
        self.assertEqual(stand.heap(0), [(4, "a", (), None)])
        self.assertEqual(stand.heap(1), [(5, "a", (), None)])

    def test_a_rule_without_deeds_has_no_body_and_no_number(self):
        k = kind("k", "a0 b0", rule(["a"]), rule(["b"], ("note", isw(1))))
        stand = gone(Stand(((k,), (*lot_at("x", "k", "ab"), lay("a"), lay("b")))), 0, 5)
        stand.do(("meet", 0, 0, (0,)))
        self.assertEqual(stand.bodies(), [])
        self.assertEqual(stand.heap(0), [(1, "b", (), None)])
        stand.do(("meet", 0, 1, (1,)))
        self.assertEqual(stand.bodies(), [(1, 0, 1, False)])

    def test_the_body_of_a_meeting_has_what_is_carried(self):
        k = kind("k", "a2 b3", rule([head("b", "x", 5, "y"), head("a", "z", "w")], ("note", isw(1))))
        main = (*lot_at("m", "k", "ab"), lay("a", True, -4), ("lay", of("b"), (of("m"), isw(5), of("a"))))
        stand = gone(Stand(((k,), main)), 0, 5)
        stand.do(("meet", 0, 0, (1, 0)))
        self.assertEqual(stand.names(1), {"x": ("lot", 0), "y": ("place", 0, "a"), "z": True, "w": -4})
        self.assertIs(stand.names(1)["z"], True)

    def test_a_body_is_gone_behind_its_last_deed_in_the_same_step(self):
        stand = Stand(((kind("k", "a0"),), (("note", isw(1)), ("note", isw(2)))))
        stand.do(("go", 0))
        self.assertEqual(stand.bodies(), [(0, None, 1, False)])
        stand.do(("go", 0))
        self.assertEqual((stand.bodies(), stand.steps(), stand.notes()), ([], [], [1, 2]))


class Steps(unittest.TestCase):
    KINDS = (
        kind("k", "a0 b0 c0", rule(["b", "a"], ("note", isw(1)), ("note", isw(2))), rule(["a"], ("note", isw(3)))),
        kind("l", "d1", rule([head("d", "v")]), rule([head("d", 1)]), rule([head("d", True)])),
    )

    def test_goes_rising_then_meets_sorted(self):
        main = (
            *lot_at("x", "l", "d"), lay("d", 1), *lot_at("y", "k", "ab"), lay("a"), lay("b"), lay("a"), lay("b"),
            ("note", isw(0)),
        )
        stand = gone(Stand((self.KINDS, main)), 0, 10)
        self.assertEqual(stand.steps(), [
            ("go", 0),
            ("meet", 0, 0, (0,)), ("meet", 0, 1, (0,)),
            ("meet", 1, 0, (2, 1)), ("meet", 1, 0, (2, 3)), ("meet", 1, 0, (4, 1)), ("meet", 1, 0, (4, 3)),
            ("meet", 1, 1, (1,)), ("meet", 1, 1, (3,)),
        ])
        stand.do(("meet", 1, 1, (3,)))
        stand.do(("meet", 1, 0, (2, 1)))
        self.assertEqual(stand.steps(), [
            ("go", 0), ("go", 1), ("go", 2), ("meet", 0, 0, (0,)), ("meet", 0, 1, (0,)),
        ])

    def test_letters_stand_in_the_order_of_the_heads(self):
        k = kind("k", "a0 b0 c0 d0", rule(["d", "a", "c", "b"]))
        stand = all_gone(Stand(((k,), (*lot_at("x", "k", "abcd"), lay("a"), lay("b"), lay("c"), lay("d")))))
        self.assertEqual(stand.steps(), [("meet", 0, 0, (3, 0, 2, 1))])

    def test_each_choice_of_letters(self):
        k = kind("k", "a0 b0 c0", rule(["a", "b", "c"]))
        letters = [lay("a"), lay("a"), lay("b"), lay("b"), lay("b"), lay("c"), lay("c")]
        stand = all_gone(Stand(((k,), (*lot_at("x", "k", "abc"), *letters))))
        wanted = [("meet", 0, 0, (a, b, c)) for a in (0, 1) for b in (2, 3, 4) for c in (5, 6)]
        self.assertEqual(stand.steps(), wanted)
        for step in wanted:
            twin = stand.twin()
            twin.do(step)
            self.assertEqual([letter[0] for letter in twin.heap(0)], [n for n in range(7) if n not in step[3]])

    def test_written_slots_tell_numbers_apart_from_truths(self):
        main = (*lot_at("x", "l", "d"), lay("d", True), lay("d", 1), lay("d", 2), ("lay", of("d"), (of("x"),)))
        stand = gone(Stand((self.KINDS, main)), 0, 6)
        self.assertEqual(stand.steps(), [
            ("meet", 0, 0, (0,)), ("meet", 0, 0, (1,)), ("meet", 0, 0, (2,)), ("meet", 0, 0, (3,)),
            ("meet", 0, 1, (1,)), ("meet", 0, 2, (0,)),
        ])

    def test_each_slot_of_a_head_is_asked(self):
        k = kind("k", "a2", rule([head("a", 1, 2)]))
        letters = [lay("a", 1, 2), lay("a", 2, 1), lay("a", 1, 1), lay("a", True, 2), lay("a", 1, 2)]
        stand = all_gone(Stand(((k,), (*lot_at("x", "k", "a"), *letters))))
        self.assertEqual(stand.steps(), [("meet", 0, 0, (0,)), ("meet", 0, 0, (4,))])

    def test_one_that_waits_does_not_go(self):
        stand = gone(Stand(BOXED), 0, 5)
        self.assertEqual(stand.bodies(), [(0, None, 1, True)])
        self.assertEqual(stand.steps(), [("meet", 0, 0, (0, 1))])
        with self.assertRaises(NoStep):
            stand.do(("go", 0))

    def test_sorted_and_without_twins_in_drawn_walks(self):
        for seed in range(60):
            for stand in walked(Stand(draw_program(seed)), seed, 25):
                steps = stand.steps()
                goes = [("go", body[0]) for body in stand.bodies() if not body[3]]
                self.assertEqual(steps[:len(goes)], goes)
                self.assertEqual(steps[len(goes):], sorted(set(steps[len(goes):])))
                self.assertTrue(all(step[0] == "meet" for step in steps[len(goes):]))


class NoSteps(unittest.TestCase):
    def refused(self, stand, thing):
        ahead = told(stand)
        with self.assertRaises(NoStep):
            stand.do(thing)
        self.assertEqual(told(stand), ahead, thing)

    def full_stand(self):
        """Body 0 waits, 1 is gone, 2 goes; letters 2 to 4 lie at lot 1, and all rules can meet there."""
        k = kind("k", "a0 b0", rule(["a"], ("note", isw(1)), ("note", isw(2))), rule(["a", "b"]))
        main = (
            *lot_at("x", "k", "ab"), lay("a"), lay("a"), *lot_at("y", "k", "ab"), lay("a"), lay("b"),
            ("call", "v", of("a"), ()),
        )
        stand = gone(Stand(((k,), main)), 0, 11)
        stand.do(("meet", 0, 0, (0,)))
        stand.do(("meet", 0, 0, (1,)))
        return gone(stand, 1, 2)

    def test_right_ones(self):
        stand = self.full_stand()
        self.assertEqual(stand.bodies(), [(0, None, 0, True), (2, 0, 2, False)])
        self.assertEqual(stand.steps(), [
            ("go", 2), ("meet", 1, 0, (2,)), ("meet", 1, 0, (4,)), ("meet", 1, 1, (2, 3)), ("meet", 1, 1, (4, 3)),
        ])
        for step in stand.steps():
            twin = stand.twin()
            self.assertIsNone(twin.do(step=step))
            self.assertEqual(twin.done()[-1], step)

    def test_goes_put_otherwise(self):
        for thing in (
            ("go", 0), ("go", 1), ("go", 3), ("go", -1), ("go", True), ("go", False), ("go", None), ("go", "2"),
            ("go", (2,)), ("go", [2]), ("go",), ("go", 2, 2), ["go", 2], ("Go", 2), ("come", 2), (b"go", 2), (2, "go"),
            (None, 2), (["go"], 2), "go", {"go": 2}, ("go", 10 ** 30), ("meet", 2), (("go", 2),), [("go", 2)],
        ):
            self.refused(self.full_stand(), thing)

    def test_a_truth_for_body_one(self):
        k = kind("k", "a0", rule(["a"], ("note", isw(1))))
        stand = gone(Stand(((k,), (*lot_at("x", "k", "a"), lay("a"), ("note", isw(1))))), 0, 3)
        stand.do(("meet", 0, 0, (0,)))
        self.assertEqual(stand.steps(), [("go", 0), ("go", 1)])
        self.refused(stand, ("go", True))
        self.refused(stand, ("go", False))

    def test_meets_put_otherwise(self):
        for thing in (
            ("meet", True, 0, (2,)), ("meet", 1, False, (2,)), ("meet", 1, True, (2, 3)), ("meet", 0, 0, (2,)),
            ("meet", 2, 0, (2,)), ("meet", -1, 0, (2,)), ("meet", 1, -1, (2, 3)), ("meet", 1, 2, (2,)),
            ("meet", 1, 0, (3,)), ("meet", 1, 0, (0,)), ("meet", 1, 0, (5,)), ("meet", 1, 0, (-1,)), ("meet", 1, 0, ()),
            ("meet", 1, 0, (2, 3)), ("meet", 1, 0, (2, 4)), ("meet", 1, 1, (2,)), ("meet", 1, 1, (3, 2)),
            ("meet", 1, 1, (2, 2)), ("meet", 1, 1, (2, 3, 4)), ("meet", 1, 1, [2, 3]), ("meet", 1, 0, [2]),
            ("meet", 1, 0, 2), ("meet", 1, 0, None), ("meet", 1, 0, "2"), ("meet", 1, 0, ((2,),)), ("meet", 1, 0, ("2",)),
            ("meet", 1, 0, ([],)), ("meet", None, 0, (2,)), ("meet", 1, None, (2,)), ("meet", "1", 0, (2,)),
            ("meet", (1,), 0, (2,)), ("meet", [], 0, (2,)), ("meet", 1, {}, (2,)), ("meet", 1, 0), ("meet", 1),
            ("meet",), ("meet", 1, 0, (2,), ()), ["meet", 1, 0, (2,)], ("Meet", 1, 0, (2,)), ("go", 1, 0, (2,)),
            (None, 1, 0, (2,)), ("meet", 0, 1, (2,)), ("meet", 10 ** 30, 0, (2,)),
        ):
            self.refused(self.full_stand(), thing)

    def test_truths_for_letters_and_lots_nought_and_one(self):
        k = kind("k", "a0 b0", rule(["a"]), rule(["b"]))
        main = (*lot_at("x", "k", "ab"), lay("a"), lay("b"))
        stand = gone(Stand(((k,), main)), 0, 5)
        self.assertEqual(stand.steps(), [("meet", 0, 0, (0,)), ("meet", 0, 1, (1,))])
        for thing in (("meet", False, 0, (0,)), ("meet", 0, False, (0,)), ("meet", 0, 0, (False,)),
                      ("meet", 0, True, (1,)), ("meet", 0, 1, (True,))):
            self.refused(stand, thing)

    def test_anything(self):
        for thing in (*JUNK, (), 0, True, Thing, ("go", Thing()), (Thing(), 0), ("meet", 1, 0, (Thing(),))):
            self.refused(self.full_stand(), thing)
        cyclic = []
        cyclic.append(cyclic)
        self.refused(self.full_stand(), cyclic)
        self.refused(self.full_stand(), ("go", cyclic))

    def test_just_the_told_ones_can_be_done(self):
        """All steps of their form, of small numbers, against those that are told."""
        forms = [("go", body) for body in range(6)]
        forms += [("meet", lot, rule_, letters) for lot in range(3) for rule_ in range(4)
                  for letters in [(a,) for a in range(6)] + [(a, b) for a in range(6) for b in range(6)]]
        for seed in range(12):
            for stand in walked(Stand(draw_program(seed)), seed, 12):
                steps = stand.steps()
                for step in forms:
                    twin = stand.twin()
                    try:
                        twin.do(step)
                        could = True
                    except NoStep:
                        could = False
                    self.assertEqual(could, step in steps, step)


class Asked(unittest.TestCase):
    def test_no_lot(self):
        stand = gone(Stand(BOXED), 0, 3)
        for thing in (1, -1, True, False, None, "0", (0,), [0], {}, 10 ** 30, Thing(), b"0"):
            with self.assertRaises(NoLot) as caught:
                stand.heap(thing)
            self.assertIs(caught.exception.thing, thing)
        with self.assertRaises(NoLot):
            Stand(BOXED).heap(0)
        self.assertEqual(stand.heap(lot=0), [])

    def test_no_body(self):
        stand = gone(Stand(BOXED), 0, 3)
        for thing in (1, -1, True, False, None, "0", (0,), [0], {}, 10 ** 30, Thing(), b"0"):
            with self.assertRaises(NoBody) as caught:
                stand.names(thing)
            self.assertIs(caught.exception.thing, thing)
        self.assertEqual(sorted(stand.names(body=0)), ["b", "get", "put"])

    def test_a_body_that_is_gone(self):
        stand = gone(Stand(((kind("k", "a0"),), (("note", isw(1)),))), 0)
        with self.assertRaises(NoBody):
            stand.names(0)

    def test_one_that_waits_has_names(self):
        stand = gone(Stand(BOXED), 0, 5)
        self.assertEqual(stand.names(0), {"b": ("lot", 0), "put": ("place", 0, "put"), "get": ("place", 0, "get")})


if __name__ == "__main__":
    unittest.main()
