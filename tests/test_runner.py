"""Points 16 and 17: the runner, its weavings and runs, and what is left at an end."""

import itertools
import random
import unittest

from waitedmeets.errors import NoBody, NoLot, NoProgram, NoRun, TooMany
from waitedmeets.lotmachines import state_of
from waitedmeets.parting import spot_of, spots_of
from waitedmeets.runner import Runner, weaving_of
from waitedmeets.runs import chooses, first_wrong, stand_behind
from waitedmeets.stands import Stand

from drawn import draw_program, woven
from samples import BOXED, JUNK, OWN, Thing, head, isw, kind, lay, lot_at, of, of_spots, rule

GO = ("go", 0)


def told(runner):
    """All that a runner tells, as a text, in which truths and numbers are told apart."""
    lots = range(len(runner.lots()))
    return repr((
        runner.ready(), runner.weaving(), runner.run(), runner.lots(), [runner.heap(lot) for lot in lots],
        [runner.state(lot) for lot in lots], runner.bodies(),
        [sorted(runner.names(row[0]).items()) for row in runner.bodies()], runner.notes(), runner.faults(),
        runner.is_over(), runner.left(), runner.seen(), len(runner),
    ))


def told_by_both(thing):
    """What a Stand and a Runner both tell."""
    return repr((
        thing.lots(), [thing.heap(lot) for lot in range(len(thing.lots()))], thing.bodies(),
        [sorted(thing.names(row[0]).items()) for row in thing.bodies()], thing.notes(), thing.faults(),
    ))


def runner_of(program, weaving):
    runner = Runner(program)
    runner.weave(weaving)
    return runner


def joined(many, seed):
    """A program with a kind of so many spots, all of whose rules have two heads, and letters drawn for it."""
    rng = random.Random(seed)
    kinds, _ = of_spots(many, "z", filling="efgh")
    letters = [lay("z") if rng.random() < 0.4 else lay("a", rng.choice((0, 1, 2, 3, True)), rng.choice((0, 1, 2, False)))
               for _ in range(13)]
    return (kinds, (*lot_at("m", "k", "az"), *letters))


class AtFirst(unittest.TestCase):
    def test_as_a_stand(self):
        runner = Runner(BOXED)
        self.assertEqual((runner.bodies(), runner.ready(), runner.lots()), ([(0, None, 6, False)], [0], []))
        self.assertEqual((runner.weaving(), runner.run(), len(runner)), ([], [], 0))
        self.assertIs(runner.is_over(), False)
        self.assertTrue(runner.stand() == Stand(BOXED))

    def test_no_deeds(self):
        runner = Runner(program=((kind("k", "a0"),), ()))
        self.assertEqual((runner.ready(), runner.bodies(), runner.left()), ([], [], ([], [])))
        self.assertIs(runner.is_over(), True)

    def test_no_program(self):
        for thing in (*JUNK, (), list(BOXED), (BOXED[0],)):
            with self.assertRaises(NoProgram):
                Runner(thing)
        with self.assertRaises(NoProgram) as caught:
            Runner((BOXED[0], (("note", isw(1)), ("note", OWN))))
        self.assertEqual((caught.exception.kind, caught.exception.deed), (None, 1))


class ByHand(unittest.TestCase):
    def test_the_box(self):
        runner = Runner(BOXED)
        for state in (None, 0, 0, 0, 1):
            if state is not None:
                self.assertEqual(runner.state(0), state)
            self.assertIsNone(runner.go(body=0))
        # By the call its letters all lie there: the rule has gone off by the same step.
        self.assertEqual(runner.run(), [GO] * 5 + [("meet", 0, 0, (0, 1))])
        self.assertEqual((runner.heap(0), runner.state(lot=0)), ([], 0))
        self.assertEqual(runner.bodies(), [(0, None, 1, True), (1, 0, 1, False)])
        self.assertEqual((runner.ready(), runner.names(1)), ([1], {"v": 7}))
        runner.weave(bodies=[1, 0])
        self.assertEqual((runner.notes(), runner.weaving(), len(runner)), ([7], [0] * 5 + [1, 0], 7))
        self.assertEqual(runner.run(), [GO] * 5 + [("meet", 0, 0, (0, 1)), ("go", 1), GO])
        self.assertIs(runner.is_over(), True)

    def test_the_eldest_letters_and_the_first_rule(self):
        k = kind("k", "a0 b1", rule(["a", head("b", 1)], ("note", isw(1))), rule(["a", head("b", "v")], ("note", of("v"))))
        main = (*lot_at("m", "k", "ab"), lay("b", 2), lay("b", 1), lay("b", 1), lay("b", 3), lay("a"), lay("a"), lay("a"))
        runner = runner_of(((k,), main), [0] * 7)
        # Spots: a, b of 1, b of others.
        self.assertEqual(runner.state(0), state_of(((k,), main), "k", (1, 2)))
        runner.go(0)
        self.assertEqual(runner.run()[-1], ("meet", 0, 0, (4, 1)))
        self.assertEqual(runner.state(0), state_of(((k,), main), "k", (1, 2)))
        runner.go(0)
        self.assertEqual(runner.run()[-1], ("meet", 0, 0, (5, 2)))
        self.assertEqual(runner.state(0), state_of(((k,), main), "k", (2,)))
        runner.go(0)
        self.assertEqual(runner.run()[-1], ("meet", 0, 1, (6, 0)))
        self.assertEqual(runner.heap(0), [(3, "b", (3,), None)])
        self.assertEqual(runner.ready(), [1, 2, 3])
        runner.weave([3, 1, 2])
        self.assertEqual(runner.notes(), [2, 1, 1])

    def test_the_eldest_of_all_spots_of_a_head(self):
        k = kind("k", "a1 b0", rule([head("a", 7), "b", ]), rule([head("a", "v"), "b"], ("note", of("v"))),)
        program = ((k,), (*lot_at("m", "k", "ab"), lay("a", 3), lay("a", 4), lay("b"), lay("a", 7), lay("b"), lay("b")))
        runner = runner_of(program, [0] * 6)
        self.assertEqual(runner.run()[-1], ("meet", 0, 1, (0, 2)))
        runner.weave([0, 0])
        self.assertEqual(runner.run()[-1], ("meet", 0, 0, (3, 4)))
        runner.go(0)
        self.assertEqual(runner.run()[-1], ("meet", 0, 1, (1, 5)))

    def test_a_rule_without_deeds(self):
        k = kind("k", "a0", rule(["a"]))
        runner = runner_of(((k,), (*lot_at("m", "k", "a"), lay("a"), lay("a"))), [0] * 4)
        self.assertEqual(runner.run(), [GO, GO, GO, ("meet", 0, 0, (0,)), GO, ("meet", 0, 0, (1,))])
        self.assertEqual((runner.bodies(), runner.heap(0)), ([], []))

    def test_a_letter_put_by_a_body_goes_off_too(self):
        k = kind("k", "a0 b0", rule(["a"], ("put", "b", ()), ("note", isw(1))), rule(["b"], ("note", isw(2))))
        runner = runner_of(((k,), (*lot_at("m", "k", "a"), lay("a"))), [0, 0, 0, 1])
        self.assertEqual(runner.run()[3:], [("meet", 0, 0, (0,)), ("go", 1), ("meet", 0, 1, (1,))])
        self.assertEqual(runner.ready(), [1, 2])

    def test_faults(self):
        k = kind("k", "a0", rule(["a"], ("note", of("no"))))
        runner = runner_of(((k,), (*lot_at("m", "k", "a"), lay("a"), lay("a", 1))), [0, 0, 0, 0, 1])
        self.assertEqual((runner.faults(), runner.is_over()), ([(0, "many"), (1, "unset")], True))

    def test_several_lots_have_states_of_their_own(self):
        k = kind("k", "a0 b0", rule(["a", "b"]))
        main = (*lot_at("m", "k", "a"), lay("a"), *lot_at("n", "k", "b"), lay("b"), ("make", "o", "k"))
        runner = runner_of(((k,), main), [0] * 7)
        self.assertEqual([runner.state(lot) for lot in range(3)], [1, 2, 0])


class Drawn(unittest.TestCase):
    def looked_at(self, runner, program):
        """Behind a go: alike to a stand that does its run, nothing is left to meet, and the run chooses."""
        stand = stand_behind(program, runner.run())
        self.assertEqual(told_by_both(runner), told_by_both(stand))
        self.assertTrue(runner.stand() == stand)
        self.assertEqual(runner.stand().done(), runner.run())
        self.assertEqual(stand.steps(), [("go", body) for body in runner.ready()])
        self.assertEqual([step[1] for step in runner.run() if step[0] == "go"], runner.weaving())
        self.assertEqual(len(runner), len(runner.weaving()))
        for lot, name in enumerate(runner.lots()):
            self.assertEqual(runner.state(lot), self.state_by_hand(program, name, runner.heap(lot)))

    def state_by_hand(self, program, name, heap):
        try:
            if len(spots_of(program, name)) > 10:
                return None
        except TooMany:
            return None
        spots = {spot_of(program, name, letter[1], letter[2]) for letter in heap}
        return state_of(program, name, tuple(sorted(spots)))

    def test_drawn_programs(self):
        meets = 0
        for seed in range(120):
            program = draw_program(seed)
            runner = Runner(program)
            for _ in woven(runner, seed, 20):
                self.looked_at(runner, program)
            self.assertIs(chooses(program, runner.run()), True)
            self.assertEqual(weaving_of(program, runner.run()), runner.weaving())
            meets += len(runner.run()) - len(runner)
        self.assertGreater(meets, 150)

    def test_10_11_24_and_25_spots(self):
        for many, machine in ((10, True), (11, False), (24, False), (25, False)):
            meets = 0
            for seed in range(5):
                program = joined(many, seed)
                runner = Runner(program)
                for _ in woven(runner, seed, 60):
                    self.looked_at(runner, program)
                    if runner.lots():
                        self.assertEqual(isinstance(runner.state(0), int), machine)
                self.assertIs(runner.is_over(), True)
                self.assertIs(chooses(program, runner.run()), True)
                meets += len(runner.run()) - len(runner)
            self.assertGreater(meets, 10)

    def test_kinds_with_and_without_a_machine_beside_one_another(self):
        kinds, main = joined(25, 3)
        runner = runner_of((kinds, (("make", "x", "l"), *main[:-2])), [0] * 6)
        self.assertEqual((runner.state(0), runner.state(1)), (0, None))

    def test_each_run_that_chooses_is_a_weavings(self):
        """All runs of some steps, of small programs: just those that choose are runs of a runner."""
        counts = {True: 0, False: 0}
        for seed in (1, 4, 8, 15, 16, 23, 42):
            program = draw_program(seed)
            rows = [Stand(program)]
            for _ in range(7):
                grown = []
                for stand in rows:
                    for step in stand.steps():
                        twin = stand.twin()
                        twin.do(step)
                        grown.append(twin)
                rows = grown[:150]
                for stand in rows:
                    run = stand.done()
                    truth = chooses(program, run)
                    counts[truth] += 1
                    runner = Runner(program)
                    runner.weave([step[1] for step in run if step[0] == "go"]) if truth else None
                    self.assertEqual(runner.run() == run, truth)
        self.assertGreater(min(counts.values()), 30)

    def test_no_letter_is_taken_twice_and_none_forgotten(self):
        for seed in range(60):
            runner = Runner(draw_program(seed))
            for _ in woven(runner, seed, 30):
                pass
            taken = [letter for step in runner.run() if step[0] == "meet" for letter in step[3]]
            lying = [letter[0] for lot in range(len(runner.lots())) for letter in runner.heap(lot)]
            self.assertEqual(sorted(taken + lying), list(range(len(taken) + len(lying))))


class Refused(unittest.TestCase):
    def amid(self):
        """Body 0 waits, body 1 is gone, body 2 can go."""
        k = kind("k", "a0 b0", rule(["a"], ("note", isw(1))))
        main = (*lot_at("m", "k", "ab"), lay("a"), lay("a"), ("call", "x", of("b"), ()), ("note", isw(2)))
        return runner_of(((k,), main), [0, 0, 0, 0, 0, 1, 0])

    def test_amid(self):
        runner = self.amid()
        self.assertEqual((runner.bodies(), runner.ready()), ([(0, None, 1, True), (2, 0, 1, False)], [2]))

    def test_no_body_that_can_go(self):
        for thing in (0, 1, 3, -1, True, False, None, "2", (2,), [2], {}, 10 ** 30, Thing(), b"2", ("go", 2)):
            runner = self.amid()
            ahead = told(runner)
            with self.assertRaises(NoBody) as caught:
                runner.go(thing)
            self.assertIs(caught.exception.thing, thing)
            self.assertEqual(told(runner), ahead)

    def test_truths_for_bodies_that_can_go(self):
        k = kind("k", "a0", rule(["a"], ("note", isw(1))))
        runner = runner_of(((k,), (*lot_at("m", "k", "a"), lay("a"), ("note", isw(2)))), [0, 0, 0])
        self.assertEqual(runner.ready(), [0, 1])
        for thing in (True, False):
            with self.assertRaises(NoBody):
                runner.go(thing)
        self.assertEqual(runner.weaving(), [0, 0, 0])

    def test_weave_up_to_the_first_that_cannot(self):
        for thing in (1, 2, -1, True, False, None, "0", [0], Thing()):
            bodies = [0, 0, thing, 0, 99]
            runner = Runner(BOXED)
            with self.assertRaises(NoBody) as caught:
                runner.weave(bodies)
            self.assertIs(caught.exception.thing, thing)
            self.assertEqual((runner.weaving(), len(runner)), ([0, 0], 2))
            self.assertEqual(told(runner), told(runner_of(BOXED, [0, 0])))
            self.assertEqual(bodies[:2] + bodies[3:], [0, 0, 0, 99])

    def test_weave_of_none(self):
        runner = Runner(BOXED)
        self.assertIsNone(runner.weave([]))
        self.assertEqual(told(runner), told(Runner(BOXED)))

    def test_no_body_to_name(self):
        runner = self.amid()
        for thing in (1, 3, True, False, None, "0", [], Thing()):
            with self.assertRaises(NoBody) as caught:
                runner.names(thing)
            self.assertIs(caught.exception.thing, thing)
        self.assertEqual(sorted(runner.names(body=0)), ["a", "b", "m"])

    def test_no_lot(self):
        runner = self.amid()
        for asked in (runner.heap, runner.state):
            for thing in (1, -1, True, False, None, "0", (0,), [], {}, 10 ** 30, Thing()):
                with self.assertRaises(NoLot) as caught:
                    asked(thing)
                self.assertIs(caught.exception.thing, thing)
            self.assertEqual(asked(lot=0), asked(0))
        with self.assertRaises(NoLot):
            Runner(BOXED).state(0)


class Own(unittest.TestCase):
    def test_what_is_told_is_the_askers_own(self):
        for many in (0, 4, 5, 6, 7):
            runner = runner_of(BOXED, [0, 0, 0, 0, 0, 1, 0][:many])
            ahead = told(runner)
            for thing in (runner.ready(), runner.weaving(), runner.run(), runner.lots(), runner.bodies(),
                          runner.notes(), runner.faults(), *runner.left()):
                self.assertIs(type(thing), list)
                thing.append("no")
                thing.reverse()
            for lot in range(len(runner.lots())):
                runner.heap(lot).append("no")
            for row in runner.bodies():
                runner.names(row[0]).clear()
            stand = runner.stand()
            for step in stand.steps():
                stand.twin().do(step)
            if stand.steps():
                stand.do(stand.steps()[0])
            self.assertEqual(told(runner), ahead)

    def test_twins(self):
        for seed in range(30):
            program = joined(10, seed) if seed % 3 == 0 else draw_program(seed)
            runner = Runner(program)
            for _ in woven(runner, seed, 9):
                pass
            ahead = told(runner)
            twin = runner.twin()
            self.assertEqual(told(twin), ahead)
            for _ in woven(twin, seed + 1, 12):
                pass
            self.assertEqual(told(runner), ahead)
            self.assertEqual(told(twin), told(runner_of(program, twin.weaving())))
            behind = told(twin)
            for _ in woven(runner, seed + 2, 12):
                pass
            self.assertEqual(told(twin), behind)
            self.assertEqual(told(runner), told(runner_of(program, runner.weaving())))

    def test_twins_whose_letters_have_the_same_numbers(self):
        k = kind("k", "s1 a0 b0 c0", rule(["a", "b"]), rule([head("s", 1)], ("put", "a", ()), ("put", "b", ())),
                 rule([head("s", 2)], ("put", "c", ()), ("put", "c", ())))
        runner = runner_of(((k,), (*lot_at("m", "k", "s"), lay("s", 1), lay("s", 2))), [0] * 4)
        twin = runner.twin()
        twin.go(1)
        runner.go(2)
        self.assertEqual((twin.heap(0), runner.heap(0)), ([(2, "a", (), None)], [(2, "c", (), None)]))
        twin.go(1)
        self.assertEqual((twin.run()[-1], twin.heap(0)), (("meet", 0, 0, (2, 3)), []))

    def test_a_twin_ahead_of_all_lots(self):
        twin = Runner(BOXED).twin()
        twin.weave([0] * 5 + [1, 0])
        self.assertEqual(told(twin), told(runner_of(BOXED, [0] * 5 + [1, 0])))

    def test_kinds_whose_first_lot_one_twin_makes_ahead_of_the_other(self):
        k = kind("k", "a0 b0", rule(["a", "b"], ("note", isw(1))))
        other = kind("l", "a1 b0", rule([head("a", 3), "b"], ("note", isw(2))), rule([head("a", "v")]))
        main = (*lot_at("m", "k", "ab"), lay("a"), *lot_at("n", "l", "ab"), lay("a", 3), lay("b"), ("make", "o", "k"))
        runner = runner_of(((k, other), main), [0] * 4)
        twin = runner.twin()
        twin.weave([0] * 6)
        self.assertEqual((twin.lots(), runner.lots()), (["k", "l", "k"], ["k"]))
        ahead = told(twin)
        runner.weave([0] * 6)
        self.assertEqual((told(runner), told(twin)), (ahead, ahead))
        self.assertEqual(told(runner_of(((k, other), main), [0] * 10)), ahead)

    def test_a_stand_each_time_anew(self):
        runner = runner_of(BOXED, [0, 0])
        runner.stand().do(GO)
        self.assertEqual(len(runner.stand()), 2)
        stand = runner.stand()
        runner.go(0)
        self.assertEqual(len(stand), 2)

    def test_no_stand_is_alike_to_a_runner(self):
        runner = runner_of(BOXED, [0, 0])
        self.assertFalse(runner.stand() == runner)
        self.assertFalse(runner == runner.stand())


class Seen(unittest.TestCase):
    def test_by_unlike_weavings(self):
        k = kind("k", "a0", rule(["a"], ("set", "x", isw(1)), ("note", isw(1))))
        program = ((k,), (*lot_at("m", "k", "a"), lay("a"), lay("a")))
        rows = {order: runner_of(program, [0] * 4 + list(order)) for order in
                set(itertools.permutations((1, 1, 2, 2)))}
        for one in rows.values():
            for other in rows.values():
                self.assertEqual(one.seen(), other.seen())
        self.assertNotEqual(runner_of(program, [0] * 4 + [1]).seen(), runner_of(program, [0] * 4 + [2]).seen())

    def test_truths_and_numbers(self):
        k = kind("k", "a1", rule([head("a", "v")], ("note", of("v"))))
        programs = [((k,), (*lot_at("m", "k", "a"), lay("a", worth))) for worth in (1, True, 1, 2)]
        seen = [runner_of(program, [0] * 3 + [1]).seen() for program in programs]
        self.assertEqual([one == seen[0] for one in seen], [True, False, True, False])

    def test_another_program(self):
        one = ((kind("k", "a1", rule([head("a", 1)])),), ())
        other = ((kind("k", "a1", rule([head("a", True)])),), ())
        self.assertNotEqual(Runner(one).seen(), Runner(other).seen())
        self.assertEqual(Runner(one).seen(), Runner(eval(repr(one))).seen())

    def test_just_where_the_stands_are_alike(self):
        for seed in range(25):
            runner = Runner(draw_program(seed))
            rows = [runner.twin()] + [one.twin() for one in woven(runner, seed, 10)]
            other = Runner(draw_program(seed))
            rows += [one.twin() for one in woven(other, seed + 1, 10)]
            for one, two in itertools.combinations(rows, 2):
                self.assertEqual(one.seen() == two.seen(), one.stand() == two.stand())

    def test_just_the_told_kinds(self):
        def leaves(thing):
            return [leaf for part in thing for leaf in leaves(part)] if isinstance(thing, tuple) else [thing]
        for many in range(8):
            seen = runner_of(BOXED, [0, 0, 0, 0, 0, 1, 0][:many]).seen()
            self.assertIs(type(seen), tuple)
            for leaf in leaves(seen):
                self.assertIn(type(leaf), (str, int, bool, type(None)))


class Weavings(unittest.TestCase):
    RUN = [GO] * 5 + [("meet", 0, 0, (0, 1)), ("go", 1), GO]

    def test_of_runs_that_choose(self):
        for many in (0, 1, 2, 3, 4, 6, 7, 8):
            weaving = weaving_of(run=self.RUN[:many], program=BOXED)
            self.assertEqual(weaving, [0, 0, 0, 0, 0, 1, 0][:many if many < 5 else many - 1])
            self.assertEqual(runner_of(BOXED, weaving).run(), self.RUN[:many])

    def test_of_runs_that_do_not_choose(self):
        k = kind("k", "a0", rule(["a"], ("note", isw(1))))
        program = ((k,), (*lot_at("m", "k", "a"), lay("a"), lay("a")))
        for run in ([GO] * 3, [GO] * 4, [GO] * 4 + [("meet", 0, 0, (0,))], [GO] * 4 + [("meet", 0, 0, (1,))]):
            self.assertIsNone(first_wrong(program, run))
            with self.assertRaises(NoRun) as caught:
                weaving_of(program, run)
            self.assertIsNone(caught.exception.number)

    def test_of_no_runs(self):
        for run, number in ((None, -1), ((), -1), (tuple(self.RUN), -1), ("", -1), (0, -1), (Thing(), -1), ([None], 0),
                            ([GO, ("go", 1)], 1), ([GO, ("go", False)], 1), (self.RUN[:5] + self.RUN[6:], 5),
                            ([*self.RUN, GO], 8), ([GO] * 5 + [("meet", 0, 0, (0, 1)), GO], 6)):
            with self.assertRaises(NoRun) as caught:
                weaving_of(BOXED, run)
            self.assertEqual(caught.exception.number, number)

    def test_a_wrong_step_goes_ahead_of_not_choosing(self):
        k = kind("k", "a0", rule(["a"], ("note", isw(1))))
        program = ((k,), (*lot_at("m", "k", "a"), lay("a"), lay("a")))
        with self.assertRaises(NoRun) as caught:
            weaving_of(program, [GO] * 4 + [None])
        self.assertEqual(caught.exception.number, 4)

    def test_no_program_goes_first(self):
        for thing in JUNK:
            for run in (None, [], [None]):
                with self.assertRaises(NoProgram):
                    weaving_of(thing, run)


class Ends(unittest.TestCase):
    def test_letters_that_lie_and_bodies_that_wait(self):
        k = kind("k", "a0 b1", rule(["a", head("b", 1)]))
        ask = kind("l", "p1", rule([head("p", "q")], ("call", "x", of("q"), (isw(5),))))
        main = (
            *lot_at("m", "k", "ab"), lay("b", 2), lay("a"), *lot_at("n", "l", "p"), ("lay", of("p"), (of("b"),)),
            ("lay", of("p"), (of("b"),)), ("call", "x", of("a"), ()), ("note", isw(1)),
        )
        runner = runner_of(((k, ask), main), [0] * 10)
        self.assertIs(runner.is_over(), False)
        self.assertEqual(runner.left(), ([(0, (0, "b", (2,), None)), (0, (1, "a", (), None)), (0, (4, "a", (), 0))], [0]))
        runner.weave([2, 1])
        self.assertIs(runner.is_over(), True)
        self.assertEqual(runner.left(), (
            [(0, (0, "b", (2,), None)), (0, (1, "a", (), None)), (0, (4, "a", (), 0)), (0, (5, "b", (5,), 2)),
             (0, (6, "b", (5,), 1))],
            [0, 1, 2],
        ))
        self.assertIs(type(runner.left()), tuple)

    def test_lot_by_lot(self):
        k = kind("k", "a0")
        main = (("make", "m", "k"), ("make", "n", "k"), ("place", "p", of("n"), "a"), ("place", "q", of("m"), "a"),
                lay("p"), lay("q"), lay("p"))
        runner = runner_of(((k,), main), [0] * 7)
        self.assertEqual(runner.left(), ([(0, (1, "a", (), None)), (1, (0, "a", (), None)), (1, (2, "a", (), None))], []))

    def test_all_taken(self):
        self.assertEqual(runner_of(BOXED, [0, 0, 0, 0, 0, 1, 0]).left(), ([], []))


if __name__ == "__main__":
    unittest.main()
