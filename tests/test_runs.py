"""Point 10: runs, and whether the told rule chooses in them."""

import random
import unittest

from waitedmeets.errors import NoProgram, NoRun
from waitedmeets.runs import chooses, first_wrong, stand_behind
from waitedmeets.stands import Stand

from drawn import draw_program, walked
from samples import BOXED, JUNK, Thing, head, isw, kind, lay, lot_at, rule

GO = ("go", 0)
BOX_MEET = ("meet", 0, 0, (0, 1))
BOX_RUN = [GO, GO, GO, GO, GO, BOX_MEET, ("go", 1), GO]


def due_by_hand(stand, lot):
    """The meeting that is due at a lot: the first of the told steps of its first rule there is that of the eldest."""
    meets = [step for step in stand.steps() if step[:2] == ("meet", lot)]
    return meets[0] if meets else None


def chooses_by_hand(program, run):
    """Point 10 once more, by what a stand tells alone."""
    stand = Stand(program)
    due = None
    for step in run:
        if due != (step if step[0] == "meet" else None):
            return False
        heaps = [stand.heap(lot) for lot in range(len(stand.lots()))]
        stand.do(step)
        due = None
        for lot in range(len(heaps)):
            if len(stand.heap(lot)) > len(heaps[lot]):
                due = due_by_hand(stand, lot)
    return due is None


class FirstWrong(unittest.TestCase):
    def test_runs(self):
        for many in range(len(BOX_RUN) + 1):
            self.assertIsNone(first_wrong(BOXED, BOX_RUN[:many]))
        self.assertIsNone(first_wrong(run=[], program=BOXED))

    def test_no_list(self):
        for thing in (None, (), tuple(BOX_RUN), "go", {}, 0, True, Thing(), GO):
            self.assertEqual(first_wrong(BOXED, thing), -1)

    def test_one_step_put_otherwise(self):
        for at in range(len(BOX_RUN)):
            for step in (("go", 2), ("go", True), ("go", False), ["go", 0], ("meet", 0, 0, (1, 0)), None, (), Thing()):
                run = [*BOX_RUN[:at], step, *BOX_RUN[at + 1:]]
                self.assertEqual(first_wrong(BOXED, run), at, step)

    def test_truths_for_numbers(self):
        for step in (("meet", False, 0, (0, 1)), ("meet", 0, False, (0, 1)), ("meet", 0, 0, (False, 1)),
                     ("meet", 0, 0, (0, True)), ("meet", 0, 0, [0, 1])):
            self.assertEqual(first_wrong(BOXED, [*BOX_RUN[:5], step, *BOX_RUN[6:]]), 5)

    def test_left_out(self):
        self.assertEqual(first_wrong(BOXED, BOX_RUN[1:]), 4)
        self.assertEqual(first_wrong(BOXED, BOX_RUN[:5] + BOX_RUN[6:]), 5)
        self.assertEqual(first_wrong(BOXED, BOX_RUN[:6] + BOX_RUN[7:]), 6)

    def test_twice(self):
        self.assertEqual(first_wrong(BOXED, BOX_RUN[:6] + BOX_RUN[5:]), 6)
        self.assertEqual(first_wrong(BOXED, BOX_RUN[:7] + BOX_RUN[6:]), 7)
        self.assertEqual(first_wrong(BOXED, [*BOX_RUN, GO]), 8)
        self.assertEqual(first_wrong(BOXED, [GO, *BOX_RUN]), 5)

    def test_exchanged(self):
        self.assertEqual(first_wrong(BOXED, [*BOX_RUN[:4], BOX_MEET, GO, *BOX_RUN[6:]]), 4)
        self.assertEqual(first_wrong(BOXED, [*BOX_RUN[:5], ("go", 1), BOX_MEET, GO]), 5)
        self.assertEqual(first_wrong(BOXED, [*BOX_RUN[:6], GO, ("go", 1)]), 6)

    def test_the_first_of_several(self):
        self.assertEqual(first_wrong(BOXED, [GO, None, ("go", 5), None]), 1)

    def test_no_program_ahead_of_all_else(self):
        for function in (first_wrong, stand_behind, chooses):
            for thing in (*JUNK, (BOXED[0], [])):
                for run in (None, [], [None]):
                    with self.assertRaises(NoProgram):
                        function(thing, run)
            with self.assertRaises(NoProgram) as caught:
                function((BOXED[0], (("note", isw(1)), ("note", ("own",)))), None)
            self.assertEqual(caught.exception.deed, 1)

    def test_the_run_is_left_as_it_was(self):
        run = list(BOX_RUN)
        for function in (first_wrong, stand_behind, chooses):
            function(BOXED, run)
        self.assertEqual(run, BOX_RUN)


class StandBehind(unittest.TestCase):
    def test_behind(self):
        stand = stand_behind(BOXED, BOX_RUN)
        self.assertEqual((stand.done(), stand.notes(), stand.bodies()), (BOX_RUN, [7], []))
        self.assertTrue(stand_behind(program=BOXED, run=[]) == Stand(BOXED))

    def test_a_new_one_each_time(self):
        one = stand_behind(BOXED, BOX_RUN[:2])
        one.do(GO)
        self.assertEqual(len(stand_behind(BOXED, BOX_RUN[:2])), 2)

    def test_a_list_that_is_kept_by_nobody(self):
        run = BOX_RUN[:2]
        stand = stand_behind(BOXED, run)
        run.append(GO)
        self.assertEqual(stand.done(), [GO, GO])

    def test_no_run(self):
        for function in (stand_behind, chooses):
            for run, number in ((None, -1), ((), -1), ("", -1), ([None], 0), ([*BOX_RUN, GO], 8), (BOX_RUN[1:], 4)):
                with self.assertRaises(NoRun) as caught:
                    function(BOXED, run)
                self.assertEqual(caught.exception.number, number)


class Chooses(unittest.TestCase):
    # Rule 1 comes behind rule 0 though both could meet; letters at b are asked for one that carries 1.
    PROGRAM = (
        (kind("k", "a0 b1 c0", rule(["a", head("b", 1)], ("put", "c", ())), rule(["a", head("b", "v")]), rule(["c"])),),
        (*lot_at("m", "k", "abc"), lay("b", 2), lay("b", 1), lay("b", 1), lay("a"), lay("a"), lay("a"), ("note", isw(0))),
    )
    AHEAD = [GO] * 8

    def told(self, run):
        self.assertIsNone(first_wrong(self.PROGRAM, run))
        self.assertIs(chooses_by_hand(self.PROGRAM, run), chooses(self.PROGRAM, run))
        return chooses(self.PROGRAM, run)

    def test_runs_that_choose(self):
        for many in range(8):
            self.assertIs(self.told([GO] * many), True)
        run = [*self.AHEAD, ("meet", 0, 0, (3, 1))]
        self.assertIs(self.told(run), True)
        run += [("go", 1), ("meet", 0, 2, (4,)), GO, ("meet", 0, 0, (5, 2)), GO, ("meet", 0, 1, (6, 0))]
        self.assertIs(self.told(run), True)
        self.assertIs(self.told([*run, GO, ("go", 2), ("meet", 0, 2, (7,))]), True)

    def test_the_first_rule_is_due_though_a_later_one_could_take_elder_letters(self):
        self.assertIs(self.told([*self.AHEAD, ("meet", 0, 1, (3, 0))]), False)
        self.assertIs(self.told([*self.AHEAD, ("meet", 0, 1, (3, 1))]), False)

    def test_another_letter_than_is_due(self):
        self.assertIs(self.told([*self.AHEAD, ("meet", 0, 0, (3, 2))]), False)

    def test_another_step_than_is_due(self):
        self.assertIs(self.told([*self.AHEAD, GO]), False)
        self.assertIs(self.told([*self.AHEAD, GO, ("meet", 0, 0, (3, 1))]), False)
        self.assertIs(self.told([*self.AHEAD, GO, ("meet", 0, 0, (3, 1)), ("meet", 0, 0, (4, 2))]), False)

    def test_ends_amid(self):
        self.assertIs(self.told(self.AHEAD), False)
        self.assertIs(self.told([*self.AHEAD, ("meet", 0, 0, (3, 1)), ("go", 1)]), False)

    def test_goes_while_a_meeting_is_due_by_another_body(self):
        run = [*self.AHEAD, ("meet", 0, 0, (3, 1)), ("go", 1), GO]
        self.assertIs(self.told(run), False)

    def test_letters_for_which_nothing_can_meet(self):
        k = kind("k", "a0 b0", rule(["a", "b"]))
        program = ((k,), (*lot_at("m", "k", "ab"), lay("a"), lay("a"), lay("b"), lay("b")))
        self.assertIs(chooses(program, [GO] * 5), True)
        self.assertIs(chooses(program, [GO] * 6), False)
        self.assertIs(chooses(program, [*[GO] * 6, ("meet", 0, 0, (0, 2)), GO, ("meet", 0, 0, (1, 3))]), True)
        self.assertIs(chooses(program, [*[GO] * 6, ("meet", 0, 0, (1, 2)), GO, ("meet", 0, 0, (0, 3))]), False)
        self.assertIs(chooses(program, [*[GO] * 7, ("meet", 0, 0, (0, 2)), ("meet", 0, 0, (1, 3))]), False)

    def test_no_run_ahead_of_not_choosing(self):
        with self.assertRaises(NoRun) as caught:
            chooses(self.PROGRAM, [*self.AHEAD, GO, GO, None])
        self.assertEqual(caught.exception.number, 10)

    def test_the_box(self):
        for many, truth in enumerate((True, True, True, True, True, False, True, True, True)):
            self.assertIs(chooses(BOXED, BOX_RUN[:many]), truth, many)

    def test_drawn_runs(self):
        told = []
        for seed in range(150):
            program = draw_program(seed)
            stand = Stand(program)
            rng = random.Random(seed)
            for _ in range(25):
                steps = stand.steps()
                if not steps:
                    break
                # Mostly what is due, so that some runs choose for long.
                due = [step for step in steps if step[0] == "meet"][:1]
                stand.do(due[0] if due and rng.random() < 0.9 else rng.choice(steps))
                told.append(chooses(program, stand.done()))
                self.assertIs(told[-1], chooses_by_hand(program, stand.done()))
        self.assertGreater(told.count(True), 300)
        self.assertGreater(told.count(False), 300)

    def test_drawn_walks_are_runs(self):
        for seed in range(40):
            program = draw_program(seed)
            stand = Stand(program)
            for _ in walked(stand, seed, 20):
                pass
            self.assertIsNone(first_wrong(program, stand.done()))
            self.assertTrue(stand_behind(program, stand.done()) == stand)


if __name__ == "__main__":
    unittest.main()
