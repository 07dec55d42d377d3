"""Point 25: made things, and the words that they keep."""

import random
import unittest

from waitedmeets.errors import MeetError, NoNumber
from waitedmeets.made import MADE, keeps, locked, met, reading, shelved
from waitedmeets.programs import look_at_program
from waitedmeets.runner import Runner
from waitedmeets.stands import Stand
from waitedmeets.world import World

from drawn import walked, woven
from samples import JUNK, Thing

MAKERS = {"locked": locked, "shelved": shelved, "met": met, "reading": reading}
ALL = (
    ("locked", 1), ("locked", 2), ("shelved", [5]), ("shelved", [0, -10 ** 9]), ("shelved", [10 ** 9, 1, 1]),
    ("shelved", [3, 1, 2]), ("met", 2), ("met", 3), ("reading", 1), ("reading", 2),
)

# Notes that keep each word.
KEPT = (
    ("locked", 1, [1, -1]), ("locked", 2, [1, -1, 2, -2]), ("locked", 2, [2, -2, 1, -1]),
    ("shelved", [5], [5]), ("shelved", [5, 5], [5, 5]), ("shelved", [1, 0, -3], [1, 0, -3]),
    ("met", 2, [1, 1, 2, 2]), ("met", 3, [1, 1, 1, 2, 2, 2]),
    ("reading", 1, [1, -1, 9, -9]), ("reading", 1, [9, -9, 1, -1]), ("reading", 2, [1, 2, -1, -2, 9, -9]),
    ("reading", 2, [2, 1, -1, -2, 9, -9]), ("reading", 2, [9, -9, 2, 1, -1, -2]), ("reading", 2, [1, -1, 9, -9, 2, -2]),
    ("reading", 2, [2, -2, 1, -1, 9, -9]),
)


def other_orders(notes):
    """Notes with two of them exchanged."""
    for at in range(len(notes)):
        for beside in range(at):
            row = list(notes)
            row[at], row[beside] = row[beside], row[at]
            yield row


class Programs(unittest.TestCase):
    def test_each_is_a_program(self):
        for word, of in ALL:
            self.assertIsNone(look_at_program(MAKERS[word](of)))

    def test_the_names(self):
        self.assertEqual(MADE, ("locked", "shelved", "met", "reading"))
        self.assertIs(type(MADE), tuple)

    def test_arguments_by_their_names(self):
        self.assertEqual(locked(many=2), locked(2))
        self.assertEqual(shelved(numbers=[1, 2]), shelved([1, 2]))
        self.assertEqual(met(many=2), met(2))
        self.assertEqual(reading(many=1), reading(1))
        self.assertIs(keeps(notes=[1, -1], of=1, word="locked"), True)

    def test_unlike_ones(self):
        programs = [MAKERS[word](of) for word, of in ALL]
        self.assertEqual(len({repr(program) for program in programs}), len(ALL))

    def test_numbers_that_they_are_not_made_of(self):
        for make, bounds in ((locked, (1, 2)), (met, (2, 3)), (reading, (1, 2))):
            for thing in (*JUNK, 0, 1, 2, 3, 4, -1, True, False, "1", "2", (1,), [2], 10 ** 59, b"2"):
                if isinstance(thing, bool) or thing not in bounds:
                    with self.assertRaises(NoNumber):
                        make(thing)

    def test_lists_that_they_are_not_made_of(self):
        for thing in (*JUNK, 0, 1, True, (1,), (1, 2), "12", [1, 2, 3, 4], [True], [1, False], [1, 2, None], ["1"], [[1]],
                      [10 ** 9 + 1], [-10 ** 9 - 1], [("lot", 0)], [Thing()], [1, (2,)], {1: 2}, [10 ** 59], [b"1"]):
            with self.assertRaises(NoNumber):
                shelved(thing)
        self.assertTrue(issubclass(NoNumber, MeetError))

    def test_what_is_handed_in_stays(self):
        numbers = [1, 2, 3]
        program = shelved(numbers)
        self.assertEqual(numbers, [1, 2, 3])
        numbers.append(4)
        self.assertEqual(program, shelved([1, 2, 3]))


class Runs(unittest.TestCase):
    def ended(self, word, of, thing):
        """The thing is at its end: nothing is left, and the word is kept."""
        self.assertEqual((thing.faults(), thing.bodies()), ([], []), (word, of))
        self.assertIs(keeps(word, of, thing.notes()), True, (word, of, thing.notes()))
        return tuple(thing.notes())

    def test_plain(self):
        for word, of in ALL:
            for seed in range(40):
                stand = Stand(MAKERS[word](of))
                for _ in walked(stand, seed, 300):
                    pass
                self.assertEqual(stand.steps(), [])
                self.ended(word, of, stand)

    def test_runner(self):
        for word, of in ALL:
            for seed in range(40):
                runner = Runner(MAKERS[word](of))
                for _ in woven(runner, seed, 300):
                    pass
                self.assertIs(runner.is_over(), True)
                self.assertEqual(runner.left()[1], [])
                self.ended(word, of, runner)

    def test_world(self):
        """Lots are moved some times; then all go on till nothing but a move can be done."""
        for word, of in ALL:
            for seed in range(25):
                world = World(MAKERS[word](of), houses=1 + seed % 4)
                for _ in walked(world, seed, 40):
                    pass
                rng = random.Random(seed)
                steps = [step for step in world.steps() if step[0] != "move"]
                while steps:
                    self.assertLess(len(world), 300)
                    world.do(rng.choice(steps))
                    steps = [step for step in world.steps() if step[0] != "move"]
                self.assertLessEqual(len(world.run()), 300)
                self.ended(word, of, world)

    def test_users_come_in_any_order(self):
        for word, of, wanted in (
            ("locked", 2, {(1, -1, 2, -2), (2, -2, 1, -1)}), ("reading", 1, {(1, -1, 9, -9), (9, -9, 1, -1)}),
        ):
            got = set()
            for seed in range(60):
                stand = Stand(MAKERS[word](of))
                for _ in walked(stand, seed, 300):
                    pass
                got.add(self.ended(word, of, stand))
            self.assertEqual(got, wanted)

    def test_readers_read_beside_one_another(self):
        got = set()
        for seed in range(150):
            stand = Stand(reading(2))
            for _ in walked(stand, seed, 300):
                pass
            got.add(self.ended("reading", 2, stand))
        self.assertTrue(any(row.index(2) < row.index(-1) and row.index(1) < row.index(-2) for row in got), got)
        self.assertTrue(any(abs(row.index(1) - row.index(-1)) == 1 for row in got), got)

    def test_users_ask_and_wait(self):
        """Somewhere on the way of each a body waits for an answer."""
        for word, of in ALL:
            waits = [row[3] for stand in walked(Stand(MAKERS[word](of)), 1, 300) for row in stand.bodies()]
            self.assertIn(True, waits)


class Keeps(unittest.TestCase):
    def test_kept(self):
        for word, of, notes in KEPT:
            self.assertIs(keeps(word, of, notes), True, (word, notes))

    def test_one_more_fewer_twice(self):
        for word, of, notes in KEPT:
            for at in range(len(notes) + 1):
                for number in (0, 1, 2, 9, -1, -9, 7, 5, 10 ** 59):
                    self.assertIs(keeps(word, of, [*notes[:at], number, *notes[at:]]), False, (word, notes))
            for at in range(len(notes)):
                self.assertIs(keeps(word, of, notes[:at] + notes[at + 1:]), False)
                self.assertIs(keeps(word, of, [*notes[:at], 77, *notes[at + 1:]]), False)
                self.assertIs(keeps(word, of, [*notes, notes[at]]), False)
            self.assertIs(keeps(word, of, []), False)
            self.assertIs(keeps(word, of, notes + notes), False)

    def test_exchanged(self):
        """Of all orders of the numbers just those told keep the word."""
        for word, of, notes in KEPT:
            for row in other_orders(notes):
                self.assertIs(keeps(word, of, row), self.by_hand(word, of, row), (word, of, row))

    def by_hand(self, word, of, row):
        text = "".join(f"<{number}>" for number in row)
        if word == "locked":
            return all(f"<{k}><{-k}>" in text for k in range(1, of + 1))
        if word == "shelved":
            return text == "".join(f"<{number}>" for number in of)
        if word == "met":
            return text == "<1>" * of + "<2>" * of
        return "<9><-9>" in text and all(text.index(f"<{k}>") < text.index(f"<{-k}>") for k in range(1, of + 1))

    def test_orders_by_hand(self):
        for word, of, notes in (
            ("locked", 2, [1, 2, -1, -2]), ("locked", 2, [1, 2, -2, -1]), ("locked", 2, [-1, 1, 2, -2]),
            ("locked", 1, [-1, 1]), ("met", 2, [1, 2, 1, 2]), ("met", 3, [1, 1, 2, 1, 2, 2]), ("met", 2, [2, 2, 1, 1]),
            ("reading", 1, [9, 1, -1, -9]), ("reading", 1, [1, 9, -9, -1, 1]), ("reading", 1, [-9, 9, 1, -1]),
            ("reading", 1, [-1, 1, 9, -9]), ("reading", 2, [1, -1, -2, 2, 9, -9]), ("reading", 2, [1, 9, 2, -9, -1, -2]),
            ("shelved", [1, 2], [2, 1]), ("shelved", [1, 2, 3], [1, 3, 2]),
        ):
            self.assertIs(keeps(word, of, notes), False, (word, notes))
        # Of the writer the word asks only that its two stand side by side.
        self.assertIs(keeps("reading", 2, [1, 9, -9, -1, 2, -2]), True)

    def test_another_thing_s_notes(self):
        for word, of, notes in KEPT:
            for other, made_of, row in KEPT:
                if row != notes:
                    kept = sorted(notes) == sorted(row) and self.by_hand(other, made_of, notes)
                    self.assertIs(keeps(other, made_of, notes), kept)

    def test_truths_for_numbers(self):
        self.assertIs(keeps("locked", 1, [True, -1]), False)
        self.assertIs(keeps("met", 2, [True, 1, 2, 2]), False)
        self.assertIs(keeps("met", 2, [1, True, 2, 2]), False)
        self.assertIs(keeps("shelved", [1], [True]), False)
        self.assertIs(keeps("shelved", [0, 5], [False, 5]), False)
        self.assertIs(keeps("reading", 1, [True, -1, 9, -9]), False)

    def test_anything_as_notes(self):
        for word, of, notes in KEPT:
            for thing in (*JUNK, tuple(notes), str(notes), 0, 1, True, None, {1: -1}, [None], [*notes[:-1], None],
                          [*notes[:-1], str(notes[-1])], [*notes[:-1], (notes[-1],)], [notes], [Thing()], [[], {}],
                          [*notes[:-1], ("lot", 0)], range(2), [{}] * len(notes)):
                self.assertIs(keeps(word, of, thing), False, (word, thing))

    def test_what_is_handed_in_stays(self):
        for word, of, notes in KEPT:
            row, made_of = list(notes), list(of) if isinstance(of, list) else of
            keeps(word, made_of, row)
            self.assertEqual((row, made_of), (notes, of))


if __name__ == "__main__":
    unittest.main()
