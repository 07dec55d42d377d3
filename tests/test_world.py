"""Points 18 to 20: lots at houses, letters and answers by post, what houses know, and the plain run."""

import unittest

from waitedmeets.errors import NoBody, NoHouse, NoLot, NoNumber, NoProgram, NoStep
from waitedmeets.runs import first_wrong, stand_behind
from waitedmeets.stands import Stand
from waitedmeets.world import World

from drawn import draw_program, walked
from samples import BOXED, JUNK, OWN, Thing, gone, head, isw, kind, lay, lot_at, of, rule

GO = ("go", 0)
COUNTER = kind("k", "a0", rule(["a"], ("note", OWN)))


def world_of(program, *steps, houses=2):
    world = World(program, houses=houses)
    for step in steps:
        world.do(step)
    return world


def told(world, many):
    """All that a world of so many houses tells, as a text, in which truths and numbers are told apart."""
    lots = range(len(world.lots()))
    return repr((
        world.steps(), world.run(), [world.waiting(house) for house in range(many)], [world.heap(lot) for lot in lots],
        world.lots(), world.bodies(), world.notes(), world.faults(), [world.where(lot) for lot in lots],
        [[world.knows(house, lot) for lot in lots] for house in range(many)], world.post(),
        [world.house_of(row[0]) for row in world.bodies()], len(world),
    ))


class AtFirst(unittest.TestCase):
    def test_main_is_at_house_nought(self):
        world = World(BOXED)
        self.assertEqual((world.bodies(), world.house_of(0)), ([(0, None, 6, False)], 0))
        self.assertEqual((world.steps(), world.run(), world.post(), world.lots()), ([GO], [], {}, []))
        self.assertEqual((world.waiting(0), world.waiting(1), len(world)), ([], [], 0))

    def test_two_houses_where_none_is_told(self):
        world = world_of(BOXED, GO)
        self.assertEqual(world.steps(), [GO, ("move", 0, 1)])
        with self.assertRaises(NoHouse):
            world.waiting(2)

    def test_one_to_four_houses(self):
        for many in (1, 2, 3, 4):
            world = world_of(BOXED, GO, houses=many)
            self.assertEqual(world.steps(), [GO, *[("move", 0, house) for house in range(1, many)]])
            self.assertEqual(world.waiting(many - 1), [])
            with self.assertRaises(NoHouse):
                world.waiting(many)

    def test_no_number_of_houses(self):
        for thing in (0, 5, -1, True, False, None, "2", (2,), [2], {}, 10 ** 30, Thing(), b"2"):
            with self.assertRaises(NoNumber):
                World(BOXED, houses=thing)

    def test_houses_by_name_alone(self):
        with self.assertRaises(TypeError):
            World(BOXED, 2)
        self.assertEqual(World(houses=3, program=BOXED).waiting(2), [])

    def test_no_program_goes_first(self):
        for thing in (*JUNK, (), list(BOXED)):
            for many in (2, 0, None):
                with self.assertRaises(NoProgram):
                    World(thing, houses=many)
        with self.assertRaises(NoProgram) as caught:
            World((BOXED[0], (("note", isw(1)), ("note", OWN))), houses=9)
        self.assertEqual(caught.exception.deed, 1)

    def test_no_deeds(self):
        world = World(((kind("k", "a0"),), ()))
        self.assertEqual((world.steps(), world.bodies(), world.home()), ([], [], 0))
        with self.assertRaises(NoBody):
            world.house_of(0)


class AtOneHouse(unittest.TestCase):
    def test_letters_and_answers_come_at_once(self):
        world = world_of(BOXED, GO, GO, GO, GO, houses=1)
        self.assertEqual((world.heap(0), world.post()), ([(0, "put", (7,), None)], {}))
        self.assertEqual((world.where(0), world.knows(0, 0)), (("at", 0), ("here",)))
        world.do(GO)
        # The rule goes off by the same step.
        self.assertEqual(world.heap(0), [])
        self.assertEqual(world.bodies(), [(0, None, 1, True), (1, 0, 1, False)])
        self.assertEqual(world.house_of(body=1), 0)
        world.do(step=("go", 1))
        self.assertEqual((world.bodies(), world.post()), ([(0, None, 1, False)], {}))
        world.do(GO)
        self.assertEqual((world.notes(), world.steps(), len(world)), ([7], [], 7))
        self.assertEqual(world.run(), [GO] * 5 + [("meet", 0, 0, (0, 1)), ("go", 1), GO])

    def test_the_first_rule_with_the_letters_that_came_first(self):
        k = kind("k", "a0 b1", rule(["a", head("b", 1)], ("note", isw(1))), rule([head("b", "v"), "a"], ("note", of("v"))))
        main = (*lot_at("m", "k", "ab"), lay("b", 2), lay("b", 1), lay("b", 1), lay("a"), lay("a"), lay("a"))
        world = world_of(((k,), main), *[GO] * 9)
        self.assertEqual([step for step in world.run() if step != GO],
                         [("meet", 0, 0, (3, 1)), ("meet", 0, 0, (4, 2)), ("meet", 0, 1, (0, 5))])

    def test_a_rule_without_deeds(self):
        k = kind("k", "a0", rule(["a"]))
        world = world_of(((k,), (*lot_at("m", "k", "a"), lay("a"), lay("a"))), *[GO] * 4)
        self.assertEqual(world.run(), [GO, GO, GO, ("meet", 0, 0, (0,)), GO, ("meet", 0, 0, (1,))])
        self.assertEqual((world.bodies(), world.heap(0)), ([], []))

    def test_faults(self):
        world = world_of(((COUNTER,), (("note", isw(True)), ("note", of("no")))), GO, GO)
        self.assertEqual((repr(world.notes()), world.faults(), world.bodies()), ("[True]", [(0, "unset")], []))


class ByPost(unittest.TestCase):
    def test_a_letter_that_waits_for_its_lot_and_one_that_comes_behind_it(self):
        world = world_of(BOXED, GO, GO, GO, ("move", 0, 1))
        self.assertEqual(world.where(0), ("way", 1))
        self.assertEqual((world.knows(0, 0), world.knows(1, 0)), ((1, 1), None))
        self.assertEqual(world.post(), {0: ("lot", 0, 1, 1)})
        self.assertEqual(world.steps(), [GO, ("come", 0)])
        world.do(GO)
        self.assertEqual(world.post(), {0: ("lot", 0, 1, 1), 1: ("letter", 0, 0, 1, 1)})
        world.do(("come", 1))
        self.assertEqual((world.waiting(1), world.waiting(0), world.heap(0)), ([0], [], []))
        world.do(GO)
        self.assertEqual(world.post(), {0: ("lot", 0, 1, 1), 2: ("letter", 1, 0, 1, 1)})
        self.assertEqual(world.bodies(), [(0, None, 1, True)])
        world.do(("come", 0))
        self.assertEqual((world.where(0), world.knows(1, 0), world.knows(0, 0)), (("at", 1), ("here",), (1, 1)))
        self.assertEqual((world.waiting(1), world.heap(0)), ([], [(0, "put", (7,), None)]))
        self.assertEqual(world.steps(), [("come", 2), ("move", 0, 0)])
        world.do(("come", 2))
        self.assertEqual(world.run(), [GO] * 5 + [("meet", 0, 0, (0, 1))])
        self.assertEqual((world.house_of(0), world.house_of(1)), (0, 1))
        world.do(("go", 1))
        # The answer is on the way: who asked waits till it comes.
        self.assertEqual(world.post(), {3: ("answer", 0, 0)})
        self.assertEqual(world.bodies(), [(0, None, 1, True)])
        world.do(("come", 3))
        self.assertEqual((world.bodies(), world.post()), ([(0, None, 1, False)], {}))
        world.do(GO)
        self.assertEqual((world.notes(), world.bodies()), ([7], []))
        self.assertEqual(world.run(), [GO] * 5 + [("meet", 0, 0, (0, 1)), ("go", 1), GO])
        self.assertEqual(len(world), 12)

    def test_an_answer_to_a_last_deed(self):
        program = (BOXED[0], BOXED[1][:5])
        world = world_of(program, GO, GO, GO, ("move", 0, 1), ("come", 0), GO, GO, ("come", 1), ("come", 2), ("go", 1))
        self.assertEqual((world.bodies(), world.post()), ([(0, None, 0, True)], {3: ("answer", 0, 0)}))
        self.assertEqual(world.house_of(0), 0)
        world.do(("come", 3))
        self.assertEqual((world.bodies(), world.steps()), ([], [("move", 0, 0)]))

    MOVED = (COUNTER,), (*lot_at("m", "k", "a"), lay("a"), lay("a"), lay("a"))

    def test_to_a_lot_that_was_moved_once(self):
        world = world_of(self.MOVED, GO, GO, ("move", 0, 1), ("come", 0), GO)
        self.assertEqual(world.post(), {1: ("letter", 0, 0, 1, 1)})
        self.assertEqual(world.bodies(), [(0, None, 2, False)])
        world.do(("come", 1))
        self.assertEqual((world.run()[-1], world.house_of(1)), (("meet", 0, 0, (0,)), 1))

    def test_to_a_lot_that_was_moved_twice(self):
        world = world_of(self.MOVED, GO, GO, ("move", 0, 1), ("come", 0), ("move", 0, 2), GO, houses=3)
        self.assertEqual([world.knows(house, 0) for house in range(3)], [(1, 1), (2, 2), None])
        self.assertEqual(world.post(), {1: ("lot", 0, 2, 2), 2: ("letter", 0, 0, 1, 1)})
        world.do(("come", 2))
        self.assertEqual(world.post(), {1: ("lot", 0, 2, 2), 3: ("letter", 0, 0, 2, 2)})
        world.do(("come", 3))
        self.assertEqual((world.waiting(2), world.post()), ([0], {1: ("lot", 0, 2, 2)}))
        world.do(("come", 1))
        self.assertEqual((world.waiting(2), world.house_of(1)), ([], 2))
        self.assertEqual([world.knows(house, 0) for house in range(3)], [(1, 1), (2, 2), ("here",)])

    def test_to_a_lot_that_comes_back(self):
        world = world_of(self.MOVED, GO, GO, ("move", 0, 1), ("come", 0), ("move", 0, 0), GO)
        # House 0 knows only of the first move.
        self.assertEqual(world.post(), {1: ("lot", 0, 0, 2), 2: ("letter", 0, 0, 1, 1)})
        world.do(("come", 2))
        self.assertEqual(world.post(), {1: ("lot", 0, 0, 2), 3: ("letter", 0, 0, 0, 2)})
        world.do(("come", 3))
        # What is known there, (1, 1), is no greater: it waits.
        self.assertEqual((world.waiting(0), world.knows(0, 0)), ([0], (1, 1)))
        world.do(("come", 1))
        self.assertEqual((world.knows(0, 0), world.knows(1, 0)), (("here",), (0, 2)))
        self.assertEqual((world.house_of(1), world.waiting(0)), (0, []))
        world.do(GO)
        self.assertEqual(world.house_of(2), 0)

    def test_an_equal_count_waits(self):
        """A letter that was sent with count 1 comes to a house from which nothing was sent."""
        world = world_of(self.MOVED, GO, GO, ("move", 0, 1), GO, ("come", 1))
        self.assertEqual((world.waiting(1), world.post()), ([0], {0: ("lot", 0, 1, 1)}))

    def test_to_the_maker_where_nothing_is_known(self):
        k = kind("k", "p1", rule([head("p", "q")], ("lay", of("q"), ()), ("lay", of("q"), ())))
        main = (*lot_at("n", "l", "a"), *lot_at("m", "k", "p"), ("lay", of("p"), (of("a"),)))
        program = ((k, kind("l", "a0", rule(["a"], ("note", isw(1))))), main)
        world = world_of(program, GO, GO, GO, GO, ("move", 1, 1), ("come", 0), GO, ("come", 1))
        self.assertEqual((world.house_of(1), world.knows(1, 0), world.where(0)), (1, None, ("at", 0)))
        world.do(("go", 1))
        self.assertEqual(world.post(), {2: ("letter", 1, 0, 0, 0)})
        world.do(("move", 0, 1))
        world.do(("come", 2))
        # The maker knows by now whereto it went.
        self.assertEqual(world.post(), {3: ("lot", 0, 1, 1), 4: ("letter", 1, 0, 1, 1)})
        world.do(("come", 3))
        world.do(("go", 1))
        # At house 1 it is here now, though the elder letter is still on its way.
        self.assertEqual((world.run()[-1], world.post()), (("meet", 0, 0, (2,)), {4: ("letter", 1, 0, 1, 1)}))
        world.do(("come", 4))
        self.assertEqual((world.run()[-1], world.house_of(3)), (("meet", 0, 0, (1,)), 1))

    def test_put_to_an_own_lot_that_went(self):
        k = kind("k", "a0 b0", rule(["a"], ("put", "b", ())))
        world = world_of(((k,), (*lot_at("m", "k", "a"), lay("a"))), GO, GO, GO, ("move", 0, 1), ("go", 1))
        self.assertEqual(world.post(), {0: ("lot", 0, 1, 1), 1: ("letter", 1, 0, 1, 1)})
        self.assertEqual(world.home(), 2)
        self.assertEqual(world.heap(0), [(1, "b", (), None)])

    def test_a_lot_is_made_at_its_bodys_house(self):
        k = kind("k", "a0", rule(["a"], ("make", "x", "l"), ("note", of("x"))))
        program = ((k, kind("l", "a0")), (*lot_at("m", "k", "a"), lay("a")))
        world = world_of(program, GO, GO, ("move", 0, 1), GO, ("come", 0), ("come", 1), ("go", 1))
        self.assertEqual((world.where(1), world.knows(1, 1), world.knows(0, 1)), (("at", 1), ("here",), None))

    def test_a_lot_takes_its_letters_with_it(self):
        k = kind("k", "a0 b0", rule(["a", "b"], ("note", isw(1))))
        program = ((k,), (*lot_at("m", "k", "ab"), lay("a"), lay("a"), lay("b"), lay("b")))
        world = world_of(program, *[GO] * 5, ("move", 0, 1))
        self.assertEqual(world.heap(0), [(0, "a", (), None), (1, "a", (), None)])
        world.do(("come", 0))
        self.assertEqual(world.heap(0), [(0, "a", (), None), (1, "a", (), None)])
        world.do(GO)
        world.do(("come", 1))
        self.assertEqual((world.run()[-1], world.heap(0)), (("meet", 0, 0, (0, 2)), [(1, "a", (), None)]))

    def test_by_the_order_in_which_they_came(self):
        k = kind("k", "a0 b0", rule(["a", "b"], ("note", isw(1))))
        program = ((k,), (*lot_at("m", "k", "ab"), lay("a"), lay("a"), lay("b")))
        ahead = (GO, GO, GO, ("move", 0, 1), ("come", 0), GO, GO)
        world = world_of(program, *ahead, ("come", 2), ("come", 1), GO, ("come", 3))
        self.assertEqual((world.run()[-1], world.heap(0)), (("meet", 0, 0, (1, 2)), [(0, "a", (), None)]))
        world = world_of(program, *ahead, ("come", 1), ("come", 2))
        self.assertEqual([letter[0] for letter in world.heap(0)], [0, 1])

    def test_letters_that_wait_come_in_their_order(self):
        k = kind("k", "a1 b0", rule([head("a", "v"), "b"], ("note", of("v"))))
        program = ((k,), (*lot_at("m", "k", "ab"), lay("a", 5), lay("a", 6), lay("b")))
        world = world_of(program, *[GO] * 3, ("move", 0, 1), GO, GO, GO, ("come", 2), ("come", 3), ("come", 1))
        self.assertEqual(world.waiting(1), [1, 2, 0])
        world.do(("come", 0))
        # By the second of them the rule has gone off, the third one stays.
        self.assertEqual(world.run()[-1], ("meet", 0, 0, (1, 2)))
        self.assertEqual((world.heap(0), world.waiting(1)), ([(0, "a", (5,), None)], []))

    def test_letters_that_wait_for_another_lot_go_on_waiting(self):
        main = (("make", "m", "k"), ("make", "n", "k"), ("place", "a", of("m"), "a"), ("place", "b", of("n"), "a"),
                lay("a"), lay("b"), lay("a"))
        world = world_of(((COUNTER,), main), *[GO] * 4, ("move", 0, 1), ("move", 1, 1), GO, GO, GO, ("come", 4),
                         ("come", 3), ("come", 2))
        self.assertEqual(world.waiting(1), [2, 1, 0])
        world.do(("come", 1))
        self.assertEqual((world.waiting(1), world.run()[-1]), ([2, 0], ("meet", 1, 0, (1,))))
        world.do(("come", 0))
        self.assertEqual(world.run()[-2:], [("meet", 0, 0, (2,)), ("meet", 0, 0, (0,))])
        self.assertEqual([world.house_of(body) for body in (1, 2, 3)], [1, 1, 1])

    def test_several_letters_go_off_by_one_coming_of_the_lot(self):
        world = world_of(self.MOVED, GO, GO, ("move", 0, 1), GO, GO, GO, ("come", 3), ("come", 1), ("come", 2))
        self.assertEqual(world.waiting(1), [2, 0, 1])
        world.do(("come", 0))
        self.assertEqual(world.run()[-3:], [("meet", 0, 0, (2,)), ("meet", 0, 0, (0,)), ("meet", 0, 0, (1,))])

    def test_an_answer_at_the_same_house(self):
        k = kind("k", "p1", rule([head("p", "q")], ("call", "x", of("q"), ()), ("note", of("x"))))
        box = kind("l", "a0", rule(["a"], ("answer", "a", isw(True))))
        main = (*lot_at("n", "l", "a"), *lot_at("m", "k", "p"), ("lay", of("p"), (of("a"),)))
        world = world_of(((k, box), main), *[GO] * 4, ("move", 0, 1), ("move", 1, 1), ("come", 0), ("come", 1), GO,
                         ("come", 2), ("go", 1), ("go", 2))
        self.assertEqual((world.house_of(1), world.post(), world.bodies()), (1, {}, [(1, 1, 1, False)]))
        self.assertEqual(repr(gone(world, 1).notes()), "[True]")


    def test_an_answer_to_a_body_at_another_house_than_its_number(self):
        k = kind("k", "p1", rule([head("p", "q")], ("call", "x", of("q"), ()), ("note", of("x"))))
        box = kind("l", "a0", rule(["a"], ("answer", "a", isw(5))))
        main = (*lot_at("n", "l", "a"), *lot_at("m", "k", "p"), *[("lay", of("p"), (of("a"),))] * 2)
        world = world_of(((k, box), main), *[GO] * 4, ("move", 1, 1), ("come", 0), GO, GO, ("come", 1), ("come", 2),
                         ("go", 2), ("come", 3), ("go", 1), ("go", 3))
        self.assertEqual(world.post(), {4: ("letter", 3, 0, 0, 0), 5: ("answer", 2, 1)})
        world.do(("come", 5))
        self.assertEqual(world.bodies(), [(1, 1, 1, True), (2, 1, 1, False)])
        self.assertEqual(gone(world, 2).notes(), [5])


class Steps(unittest.TestCase):
    def amid(self):
        """Body 0 can go, 1 can, 2 is gone; lot 0 is at house 1, lot 1 on its way, lot 2 at house 0; three parcels."""
        k = kind("k", "a0", rule(["a"], ("note", isw(1)), ("note", isw(2))))
        main = (("make", "m", "k"), ("make", "n", "k"), ("make", "o", "k"), ("place", "a", of("m"), "a"),
                ("place", "b", of("n"), "a"), lay("a"), lay("a"), lay("b"), lay("a"), lay("b"))
        return world_of(((k,), main), *[GO] * 7, ("go", 2), ("go", 2), ("move", 0, 1), ("come", 0), ("move", 1, 2), GO,
                        GO, houses=3)

    def test_in_their_order(self):
        self.assertEqual(self.amid().steps(), [
            GO, ("go", 1), ("come", 1), ("come", 2), ("come", 3),
            ("move", 0, 0), ("move", 0, 2), ("move", 2, 1), ("move", 2, 2),
        ])
        self.assertEqual(list(self.amid().post().items()), [
            (1, ("lot", 1, 2, 1)), (2, ("letter", 2, 1, 2, 1)), (3, ("letter", 3, 0, 1, 1)),
        ])

    def test_all_told_can_be_done(self):
        for step in self.amid().steps():
            world = self.amid()
            self.assertIsNone(world.do(step))
            self.assertEqual(len(world), 15)

    def test_no_steps(self):
        for thing in (
            ("go", 2), ("go", 3), ("go", -1), ("go", True), ("go", False), ("go", None), ("go", "0"), ("go", [0]), ("go",),
            ("go", 0, 0), ["go", 0], ("Go", 0), (b"go", 0), (None, 0), ("come", 0), ("come", 4), ("come", True),
            ("come", -1), ("come", None), ("come", (1,)), ("come",), ("come", 1, 1), ["come", 1], ("Come", 1),
            ("comes", 1), (b"come", 1), (None, 1), ("meet", 1), ("move", 0, 1),
            ("move", 1, 0), ("move", 1, 1), ("move", 1, 2), ("move", 2, 0), ("move", 3, 0), ("move", -1, 0),
            ("move", 0, 3), ("move", 0, -1), ("move", False, 0), ("move", 0, False), ("move", 2, True), ("move", 0),
            ("move", 0, 0, 0), ["move", 0, 0], ("move", 0, None), ("move", "0", 0), ("move", [], 0), ("move", 0, []),
            ("Move", 0, 0), ("meet", 0, 0, (0,)), (), 0, True, *JUNK, Thing, ("go", Thing()), (Thing(), 0),
            ("move", 10 ** 30, 0), ("come", 10 ** 30), ("go", 10 ** 30),
        ):
            world = self.amid()
            ahead = told(world, 3)
            with self.assertRaises(NoStep):
                world.do(thing)
            self.assertEqual(told(world, 3), ahead, thing)

    def test_just_the_told_ones_can_be_done(self):
        forms = [("go", body) for body in range(5)] + [("come", parcel) for parcel in range(9)]
        forms += [("move", lot, house) for lot in range(4) for house in range(4)]
        for seed in range(12):
            for world in walked(World(draw_program(seed), houses=3), seed, 20):
                steps = world.steps()
                for step in forms:
                    twin = world.twin()
                    try:
                        twin.do(step)
                        could = True
                    except NoStep:
                        could = False
                    self.assertEqual(could, step in steps, step)

    def test_a_bodys_step_while_it_waits(self):
        world = world_of(BOXED, GO, GO, GO, ("move", 0, 1), GO, GO)
        with self.assertRaises(NoStep):
            world.do(GO)


class Asked(unittest.TestCase):
    THINGS = (-1, True, False, None, "0", (0,), [0], {}, 10 ** 30, Thing(), b"0")

    def test_no_lot(self):
        world = world_of(BOXED, GO)
        for asked in (world.heap, world.where, lambda lot: world.knows(0, lot)):
            for thing in (1, *self.THINGS):
                with self.assertRaises(NoLot) as caught:
                    asked(thing)
                self.assertIs(caught.exception.thing, thing)
        self.assertEqual((world.heap(lot=0), world.where(lot=0), world.knows(lot=0, house=0)), ([], ("at", 0), ("here",)))

    def test_no_body(self):
        world = world_of(BOXED, *[GO] * 5, ("go", 1))
        for thing in (1, 2, *self.THINGS):
            with self.assertRaises(NoBody) as caught:
                world.house_of(thing)
            self.assertIs(caught.exception.thing, thing)
        self.assertEqual(world.house_of(body=0), 0)

    def test_no_house(self):
        world = world_of(BOXED, GO)
        for thing in (2, *self.THINGS):
            with self.assertRaises(NoHouse) as caught:
                world.waiting(thing)
            self.assertIs(caught.exception.thing, thing)
            # Of what a house knows NoHouse goes first.
            for lot in (0, 1, None):
                with self.assertRaises(NoHouse) as caught:
                    world.knows(thing, lot)
                self.assertIs(caught.exception.thing, thing)
        self.assertEqual(world.waiting(house=1), [])


class Home(unittest.TestCase):
    PROGRAM = ByPost.MOVED

    def test_the_least_first(self):
        world = world_of(self.PROGRAM, GO, GO, ("move", 0, 1), GO, ("come", 0), ("move", 0, 0), GO)
        self.assertEqual(world.post(), {1: ("letter", 0, 0, 1, 1), 2: ("lot", 0, 0, 2), 3: ("letter", 1, 0, 1, 1)})
        # 1 is sent on as 4, 2 comes, 3 is sent on as 5, then 4 and 5 come.
        self.assertEqual((world.home(), len(world)), (5, 12))
        self.assertEqual(world.run()[-2:], [("meet", 0, 0, (0,)), ("meet", 0, 0, (1,))])
        self.assertEqual((world.post(), world.waiting(0), world.waiting(1)), ({}, [], []))
        self.assertEqual((world.home(), len(world)), (0, 12))
        world.do(("move", 0, 1))
        self.assertEqual(world.post(), {6: ("lot", 0, 1, 3)})

    def test_as_steps(self):
        steps = (GO, GO, ("move", 0, 1), GO, GO)
        world = world_of(self.PROGRAM, *steps)
        world.home()
        self.assertTrue(world == world_of(self.PROGRAM, *steps, ("come", 0), ("come", 1), ("come", 2)))

    def test_no_body_goes(self):
        world = world_of(self.PROGRAM, GO, GO, ("move", 0, 1), GO)
        world.home()
        self.assertEqual(world.bodies(), [(0, None, 2, False), (1, 0, 1, False)])

    def test_answers_come_too(self):
        world = world_of(BOXED, *[GO] * 3, ("move", 0, 1), GO, GO)
        self.assertEqual(world.home(), 3)
        world.do(("go", 1))
        self.assertEqual((world.home(), world.bodies()), (1, [(0, None, 1, False)]))


class Own(unittest.TestCase):
    def worlds(self):
        for seed in range(20):
            world = World(draw_program(seed), houses=3)
            for _ in walked(world, seed, 12):
                pass
            yield world

    def test_what_is_told_is_the_askers_own(self):
        for world in self.worlds():
            ahead = told(world, 3)
            lists = [world.steps(), world.run(), world.lots(), world.bodies(), world.notes(), world.faults()]
            lists += [world.waiting(house) for house in range(3)]
            lists += [world.heap(lot) for lot in range(len(world.lots()))]
            for thing in lists:
                self.assertIs(type(thing), list)
                thing.append("no")
                thing.reverse()
            post = world.post()
            self.assertIs(type(post), dict)
            self.assertEqual(list(post), sorted(post))
            post.clear()
            self.assertEqual(told(world, 3), ahead)

    def test_twins(self):
        for seed, world in enumerate(self.worlds()):
            ahead = told(world, 3)
            twin = world.twin()
            self.assertIs(type(twin), World)
            self.assertEqual(told(twin, 3), ahead)
            self.assertTrue(twin == world)
            for _ in walked(twin, seed, 15):
                pass
            twin.home()
            self.assertEqual(told(world, 3), ahead)
            behind = told(twin, 3)
            for _ in walked(world, seed + 1, 15):
                pass
            self.assertEqual(told(twin, 3), behind)


    def test_twins_move_on_by_their_own_counts(self):
        world = world_of(ByPost.MOVED, GO, GO, ("move", 0, 1), ("come", 0))
        twin = world.twin()
        for one in (twin, world):
            one.do(("move", 0, 0))
            self.assertEqual(one.post(), {1: ("lot", 0, 0, 2)})


class Alike(unittest.TestCase):
    def alike(self, one, other):
        self.assertTrue(one == other)
        self.assertTrue(other == one)
        self.assertFalse(one != other)

    def unlike(self, one, other):
        self.assertFalse(one == other)
        self.assertFalse(other == one)
        self.assertTrue(one != other)

    TWO = (COUNTER,), (("make", "m", "k"), ("make", "n", "k"), ("place", "a", of("m"), "a"), ("place", "b", of("n"), "a"),
                       lay("a"), lay("b"))
    ALSO = (GO, GO, GO, GO, ("move", 0, 1), ("move", 1, 1))

    def test_by_other_steps(self):
        one = world_of(self.TWO, *self.ALSO, ("come", 0), ("come", 1))
        self.alike(one, world_of(self.TWO, *self.ALSO, ("come", 1), ("come", 0)))
        self.unlike(one, world_of(self.TWO, *self.ALSO, ("come", 1)))

    def test_what_was_known_before_the_lot_came_back(self):
        def moved(*houses):
            world = world_of(self.TWO, GO, houses=3)
            for house in houses:
                world.do(("move", 0, house))
                world.home()
            return world
        self.alike(moved(1, 0, 1, 2, 0), moved(2, 0, 1, 2, 0))
        # House 0 itself has sent it by its third, or by its first move.
        self.alike(moved(1, 0, 2, 1, 0), moved(2, 1, 2, 1, 0))
        self.unlike(moved(1, 0, 1, 2, 0), moved(1, 0, 2, 1, 0))
        self.unlike(moved(1, 0), moved(2, 0))
        self.unlike(moved(), moved(1, 0))

    def test_lots_sent_in_another_order(self):
        one = world_of(self.TWO, *self.ALSO[:4], ("move", 0, 1), ("move", 1, 1), ("come", 0), ("come", 1))
        other = world_of(self.TWO, *self.ALSO[:4], ("move", 1, 1), ("move", 0, 1), ("come", 0), ("come", 1))
        self.alike(one, other)

    def test_a_letter_on_its_way_to_another_house(self):
        def moved(*houses):
            world = world_of(ByPost.MOVED, GO, GO, houses=3)
            for number, house in enumerate(houses):
                world.do(("move", 0, house))
                world.do(("come", number + (number > 0)))
                if number == 0:
                    world.do(GO)
            return world
        one, other = moved(1, 0, 2, 1, 0), moved(2, 1, 2, 1, 0)
        self.assertEqual((one.post(), other.post()), ({1: ("letter", 0, 0, 1, 1)}, {1: ("letter", 0, 0, 2, 1)}))
        self.assertEqual([one.knows(house, 0) for house in range(3)], [other.knows(house, 0) for house in range(3)])
        self.unlike(one, other)

    def test_how_many_houses(self):
        self.alike(World(BOXED, houses=2), World(BOXED))
        self.unlike(World(BOXED, houses=2), World(BOXED, houses=3))
        self.unlike(World(BOXED, houses=1), World(BOXED))

    def test_programs(self):
        programs = [((kind("k", "a1", rule([head("a", worth)])),), ()) for worth in (1, True)]
        self.unlike(World(programs[0]), World(programs[1]))
        self.alike(World(programs[0]), World(eval(repr(programs[0]))))

    def test_the_plain_run(self):
        """Two bodies set the same names, by turns: all else is alike behind it."""
        k = kind("k", "a0", rule(["a"], ("set", "x", isw(1)), ("note", isw(1))))
        program = ((k,), (*lot_at("m", "k", "a"), lay("a"), lay("a")))
        one = world_of(program, *[GO] * 4, ("go", 1), ("go", 2))
        other = world_of(program, *[GO] * 4, ("go", 2), ("go", 1))
        self.assertTrue(stand_behind(program, one.run()) == stand_behind(program, other.run()))
        self.unlike(one, other)

    def test_truths_and_numbers(self):
        programs = [((COUNTER,), (("note", isw(worth)), ("note", isw(2)))) for worth in (1, True)]
        self.unlike(gone(World(programs[0]), 0), gone(World(programs[1]), 0))

    def test_where_things_are(self):
        ahead = world_of(self.TWO, *self.ALSO, GO, GO)
        rows = [ahead.twin() for _ in range(5)]
        for row, parcels in zip(rows, ((), (0,), (1,), (2,), (3,))):
            for parcel in parcels:
                row.do(("come", parcel))
        for at, one in enumerate(rows):
            for number, other in enumerate(rows):
                self.assertEqual(one == other, at == number)

    def test_the_order_in_which_letters_came(self):
        k = kind("k", "a0")
        program = ((k,), (*lot_at("m", "k", "a"), lay("a"), lay("a")))
        for ahead in ((GO, GO, ("move", 0, 1), GO, GO), (GO, GO, ("move", 0, 1), ("come", 0), GO, GO)):
            one = world_of(program, *ahead, ("come", 1), ("come", 2))
            other = world_of(program, *ahead, ("come", 2), ("come", 1))
            self.unlike(one, other)

    def test_the_number_that_comes_next(self):
        """In one of them a letter was sent on, so that one parcel more was posted: nothing else is other."""
        program = ((kind("k", "a0"),), (*lot_at("m", "k", "a"), lay("a"), ("note", isw(1))))
        ahead = (GO, GO, ("move", 0, 1), ("come", 0), GO)
        one = world_of(program, *ahead, ("come", 1), ("move", 0, 2), ("come", 2), houses=3)
        other = world_of(program, *ahead, ("move", 0, 2), ("come", 1), ("come", 2), ("come", 3), houses=3)
        self.assertEqual(told(one, 3).rpartition(",")[0], told(other, 3).rpartition(",")[0])
        self.unlike(one, other)

    def test_a_letter_sent_on_by_other_steps(self):
        ahead = (GO, GO, ("move", 0, 1), ("come", 0))
        one = world_of(ByPost.MOVED, *ahead, GO, ("move", 0, 2), ("come", 1), houses=3)
        self.assertEqual(one.post(), {2: ("lot", 0, 2, 2), 3: ("letter", 0, 0, 2, 2)})
        one.home()
        other = world_of(ByPost.MOVED, *ahead, ("move", 0, 2), ("come", 1), GO, ("come", 2), houses=3)
        other.home()
        self.alike(one, other)

    def test_to_nothing_else(self):
        world = gone(World(BOXED), 0, 2)
        stand = gone(Stand(BOXED), 0, 2)
        for other in (None, 0, (), BOXED, stand, world.run(), Thing(), "world", World):
            self.unlike(world, other)


class PlainRun(unittest.TestCase):
    """Beside each drawn walk of a world goes a stand that does its plain run."""

    def looked_at(self, world, program, many):
        self.assertIsNone(first_wrong(program, world.run()))
        stand = stand_behind(program, world.run())
        self.assertEqual(world.lots(), stand.lots())
        self.assertEqual(repr((world.notes(), world.faults())), repr((stand.notes(), stand.faults())))
        answers = [row[1] for row in world.post().values() if row[0] == "answer"]
        here = [row for row in world.bodies() if not row[3]]
        there = [row for row in stand.bodies() if not row[3] and row[0] not in answers]
        self.assertEqual(here, there)
        self.assertEqual([row for row in world.bodies() if row[3] and row[0] not in answers],
                         [row for row in stand.bodies() if row[3]])
        waiting = [number for house in range(many) for number in world.waiting(house)]
        posted = [row for row in world.post().values() if row[0] == "letter"]
        numbers = [[letter[0] for letter in world.heap(lot)] for lot in range(len(world.lots()))]
        for lot in range(len(world.lots())):
            lying = [letter[0] for letter in stand.heap(lot)]
            mine = numbers[lot] + [number for number in waiting if number in lying]
            mine += [row[1] for row in posted if row[2] == lot]
            self.assertEqual(sorted(mine), lying)
            self.assertEqual([letter for letter in sorted(world.heap(lot), key=lambda letter: letter[0])],
                             [letter for letter in stand.heap(lot) if letter[0] in numbers[lot]])
        self.assertEqual(len(waiting) + len(posted) + sum(map(len, numbers)),
                         sum(len(stand.heap(lot)) for lot in range(len(stand.lots()))))

    def test_drawn_walks(self):
        meets = 0
        sent_on = 0
        for seed in range(120):
            program = draw_program(seed)
            many = seed % 4 + 1
            world = World(program, houses=many)
            for _ in walked(world, seed, 40):
                self.looked_at(world, program, many)
            meets += sum(step[0] == "meet" for step in world.run())
            came = world.home()
            sent_on += came
            self.looked_at(world, program, many)
            self.assertEqual((world.post(), [world.waiting(house) for house in range(many)]), ({}, [[]] * many))
        self.assertGreater(meets, 100)
        self.assertGreater(sent_on, 50)

    def test_a_letter_comes_to_its_lot_just_once(self):
        for seed in range(60):
            world = World(draw_program(seed), houses=4)
            for _ in walked(world, seed + 7, 60):
                pass
            world.home()
            taken = [letter for step in world.run() if step[0] == "meet" for letter in step[3]]
            lying = [letter[0] for lot in range(len(world.lots())) for letter in world.heap(lot)]
            self.assertEqual(sorted(taken + lying), list(range(len(taken) + len(lying))))

    def test_nothing_is_left_to_meet_where_all_has_come(self):
        for seed in range(60):
            program = draw_program(seed)
            world = World(program)
            for _ in walked(world, seed + 3, 30):
                pass
            world.home()
            stand = stand_behind(program, world.run())
            self.assertEqual([step for step in stand.steps() if step[0] == "meet"], [])

    def test_what_houses_know(self):
        """Just one house has a lot that is at one; the newest that is known is where it is, or is going to."""
        for seed in range(60):
            for world in walked(World(draw_program(seed), houses=3), seed + 5, 40):
                for lot in range(len(world.lots())):
                    known = [world.knows(house, lot) for house in range(3)]
                    word, house = world.where(lot)
                    self.assertEqual([at for at in range(3) if known[at] == ("here",)], [house] if word == "at" else [])
                    sent = [row for row in known if row is not None and row != ("here",)]
                    if sent:
                        self.assertEqual(max(sent, key=lambda row: row[1])[0], house)


if __name__ == "__main__":
    unittest.main()
