"""Point 26: all ends of a program, by the plain reading and by the compiled one."""

import unittest

from waitedmeets.errors import MeetError, NoNumber, NoProgram, TooMany
from waitedmeets.made import keeps, locked, met, reading, shelved
from waitedmeets.runner import Runner
from waitedmeets.stands import Stand
from waitedmeets.weavings import ends

from drawn import draw_program, walked, woven
from samples import BOXED, JUNK, OWN, Thing, head, isw, kind, lay, lot_at, of, rule

MAKERS = {"locked": locked, "shelved": shelved, "met": met, "reading": reading}
MADE_OF = (
    ("locked", 1), ("locked", 2), ("shelved", [4]), ("shelved", [1, 0]), ("shelved", [2, 2, -7]), ("met", 2), ("met", 3),
    ("reading", 1), ("reading", 2),
)

# Two letters at a may meet the one at b; the other one stays.
CHOICE = (
    (kind("k", "a1 b0", rule([head("a", "v"), "b"], ("note", of("v")))),),
    (*lot_at("m", "k", "ab"), lay("a", 1), lay("a", True), lay("b")),
)
# Main notes while the body of a rule does.
BESIDE = (
    (kind("k", "a0", rule(["a"], ("note", isw(1)))),),
    (*lot_at("m", "k", "a"), lay("a"), ("note", isw(2))),
)
NOTHING = ((kind("k", "a0"),), ())


def stands_by_hand(program):
    """All unlike stands of the plain reading, each compared with each."""
    met_so_far = [Stand(program)]
    for stand in met_so_far:
        for step in stand.steps():
            twin = stand.twin()
            twin.do(step)
            if not any(twin == other for other in met_so_far):
                met_so_far.append(twin)
    return met_so_far


def runners_by_hand(program):
    met_so_far = [Runner(program)]
    for runner in met_so_far:
        for body in runner.ready():
            twin = runner.twin()
            twin.go(body)
            if not any(twin.seen() == other.seen() for other in met_so_far):
                met_so_far.append(twin)
    return met_so_far


class ByHand(unittest.TestCase):
    def test_choices(self):
        self.assertEqual(repr(ends(CHOICE)), "[((1,), 0, ()), ((True,), 0, ())]")
        self.assertEqual(repr(ends(CHOICE, compiled=True)), "[((1,), 0, ())]")

    def test_weavings(self):
        self.assertEqual(ends(BESIDE), [((1, 2), 0, ()), ((2, 1), 0, ())])
        self.assertEqual(ends(BESIDE, compiled=True), [((1, 2), 0, ()), ((2, 1), 0, ())])

    def test_no_steps_at_all(self):
        for compiled in (False, True):
            self.assertEqual(ends(NOTHING, compiled=compiled), [((), 0, ())])
            self.assertEqual(ends(NOTHING, most=1, compiled=compiled), [((), 0, ())])

    def test_bodies_that_wait(self):
        k = kind("k", "a0 b0")
        program = ((k,), (*lot_at("m", "k", "ab"), ("call", "x", of("a"), ()), ("note", isw(1))))
        for compiled in (False, True):
            self.assertEqual(ends(program, compiled=compiled), [((), 1, ())])
        asks = rule(["a"], ("place", "b", OWN, "b"), ("call", "x", of("b"), ()))
        program = ((kind("k", "a0 b0", asks),), (*lot_at("m", "k", "a"), lay("a"), lay("a"), ("call", "x", of("a"), ())))
        for compiled in (False, True):
            self.assertEqual(ends(program, compiled=compiled), [((), 4, ())])

    def test_faults(self):
        fails = kind("k", "a0", rule(["a"], ("note", of("x"))))
        program = ((fails,), (*lot_at("m", "k", "a"), lay("a"), lay("a"), ("note", of("y"))))
        told = ends(program)
        faults = [((), 0, ((0, "unset"), (1, "unset"), (2, "unset"))), ((), 0, ((1, "unset"), (0, "unset"), (2, "unset"))),
                  ((), 0, ((1, "unset"), (2, "unset"), (0, "unset"))), ((), 0, ((2, "unset"), (1, "unset"), (0, "unset"))),
                  ((), 0, ((2, "unset"), (0, "unset"), (1, "unset"))), ((), 0, ((0, "unset"), (2, "unset"), (1, "unset")))]
        self.assertEqual(told, sorted(faults, key=repr))
        self.assertEqual(ends(program, compiled=True), sorted(faults, key=repr))

    def test_truths_apart_from_numbers(self):
        notes = rule([head("a", "v")], ("note", of("v")))
        program = ((kind("k", "a1", notes),), (*lot_at("m", "k", "a"), lay("a", 1), lay("a", True)))
        for compiled in (False, True):
            self.assertEqual(repr(ends(program, compiled=compiled)), "[((1, True), 0, ()), ((True, 1), 0, ())]")

    def test_sorted_by_repr_each_once(self):
        notes = rule([head("a", "v")], ("note", of("v")))
        program = ((kind("k", "a1", notes),), (*lot_at("m", "k", "a"), lay("a", 10), lay("a", 9), lay("a", -1), lay("a", 9)))
        for compiled in (False, True):
            told = ends(program, compiled=compiled)
            self.assertEqual(told, sorted(told, key=repr))
            self.assertNotEqual(told, sorted(told))
            self.assertEqual(len({repr(end) for end in told}), len(told))
            self.assertEqual(len(told), 12)
            self.assertEqual({type(end) for end in told} | {type(end[0]) for end in told} | {type(end[2]) for end in told},
                             {tuple})

    def test_arguments_by_their_names(self):
        self.assertEqual(ends(compiled=True, most=50, program=BESIDE), ends(BESIDE, compiled=True))
        with self.assertRaises(TypeError):
            ends(BESIDE, 50)

    def test_told_anew(self):
        ends(BESIDE).clear()
        self.assertEqual(len(ends(BESIDE)), 2)


class Most(unittest.TestCase):
    def too_many(self, program, most, compiled):
        with self.assertRaises(TooMany) as caught:
            ends(program, most=most, compiled=compiled)
        self.assertEqual(caught.exception.many, most + 1)
        self.assertIsInstance(caught.exception, OverflowError)

    def test_just_as_many_and_one_less(self):
        for program in (BESIDE, CHOICE, BOXED, locked(1), met(2)):
            for compiled, count in ((False, stands_by_hand), (True, runners_by_hand)):
                many = len(count(program))
                self.assertEqual(ends(program, most=many, compiled=compiled), ends(program, compiled=compiled))
                self.too_many(program, many - 1, compiled)
                self.too_many(program, 1, compiled)

    def test_without_end(self):
        again = kind("k", "a0", rule(["a"], ("put", "a", ())))
        program = ((again,), (*lot_at("m", "k", "a"), lay("a")))
        for compiled in (False, True):
            for most in (1, 2, 50):
                self.too_many(program, most, compiled)
            with self.assertRaises(TooMany) as caught:
                ends(program, compiled=compiled)
            self.assertEqual(caught.exception.many, 4001)
        self.too_many(program, 20000, True)

    def test_bounds(self):
        self.assertEqual(ends(NOTHING, most=1), [((), 0, ())])
        self.assertEqual(ends(NOTHING, most=20000), [((), 0, ())])
        for compiled in (False, True):
            for thing in (0, 20001, -1, True, False, None, "1", (1,), [4000], {}, b"1", 10 ** 59, Thing()):
                with self.assertRaises(NoNumber):
                    ends(BESIDE, most=thing, compiled=compiled)

    def test_no_program_goes_first(self):
        for compiled in (False, True):
            for thing in (*JUNK, (), list(BESIDE), (BESIDE[0],)):
                for most in (4000, 0, None):
                    with self.assertRaises(NoProgram):
                        ends(thing, most=most, compiled=compiled)
            with self.assertRaises(NoProgram) as caught:
                ends((BOXED[0], (("note", isw(1)), ("note", OWN))), most=True, compiled=compiled)
            self.assertEqual(caught.exception.deed, 1)
        self.assertTrue(issubclass(NoNumber, MeetError))


class Made(unittest.TestCase):
    def test_each_keeps_its_word_at_all_ends(self):
        for word, made_of in MADE_OF:
            plain = ends(MAKERS[word](made_of), most=20000)
            compiled = ends(MAKERS[word](made_of), most=20000, compiled=True)
            self.assertGreater(len(compiled), 0)
            for notes, waiting, faults in plain:
                self.assertIs(keeps(word, made_of, list(notes)), True, (word, made_of, notes))
                self.assertEqual((waiting, faults), (0, ()))
            for end in compiled:
                self.assertIn(end, plain)

    def test_fewer_than_4000(self):
        for compiled in (False, True):
            self.assertEqual(ends(locked(1), most=3999, compiled=compiled), [((1, -1), 0, ())])
        # So it is of all of them, though it is told of this one alone.
        for word, made_of in MADE_OF:
            ends(MAKERS[word](made_of))

    def test_all_orders_are_there(self):
        self.assertEqual(ends(locked(2)), [((1, -1, 2, -2), 0, ()), ((2, -2, 1, -1), 0, ())])
        self.assertEqual(ends(locked(2), compiled=True), ends(locked(2)))
        told = [notes for notes, _, _ in ends(reading(2))]
        self.assertIn((1, 2, -1, -2, 9, -9), told)
        self.assertIn((9, -9, 2, 1, -2, -1), told)
        self.assertIn((1, -1, 9, -9, 2, -2), told)


class Drawn(unittest.TestCase):
    def test_by_stands_alone(self):
        looked = 0
        for seed in range(60):
            program = draw_program(seed)
            try:
                told = ends(program, most=120)
            except TooMany:
                continue
            stands = [stand for stand in stands_by_hand(program) if not stand.steps()]
            wanted = {repr((tuple(stand.notes()), [row[3] for row in stand.bodies()].count(True), tuple(stand.faults())))
                      for stand in stands}
            self.assertEqual([repr(end) for end in told], sorted(wanted))
            looked += 1
        self.assertGreater(looked, 15)

    def test_walks_end_there(self):
        looked = 0
        for seed in range(80):
            program = draw_program(seed)
            try:
                plain = [repr(end) for end in ends(program, most=600)]
                compiled = [repr(end) for end in ends(program, most=600, compiled=True)]
            except TooMany:
                continue
            self.assertLessEqual(set(compiled), set(plain))
            for walk in range(6):
                stand, runner = Stand(program), Runner(program)
                for _ in walked(stand, walk, 300):
                    pass
                for _ in woven(runner, walk, 300):
                    pass
                self.assertIn(self.end_of(stand), plain)
                self.assertIn(self.end_of(runner), compiled)
                looked += 1
        self.assertGreater(looked, 100)

    def end_of(self, thing):
        return repr((tuple(thing.notes()), [row[3] for row in thing.bodies()].count(True), tuple(thing.faults())))


if __name__ == "__main__":
    unittest.main()
