"""Point 3: what holds over the whole program, its modules taken together."""

import random
import unittest

from waitedmeets.desk import Desk
from waitedmeets.errors import TooMany
from waitedmeets.growing import holds, lets_holds
from waitedmeets.likeness import lets_likeness, likeness
from waitedmeets.made import MADE, keeps, locked, met, reading, shelved
from waitedmeets.otherwise import called
from waitedmeets.runner import Runner, weaving_of
from waitedmeets.runs import chooses, first_wrong, stand_behind
from waitedmeets.stands import Stand
from waitedmeets.texts import read_program, read_run, show_program, show_run
from waitedmeets.weavings import ends
from waitedmeets.world import World

from drawn import draw_net, draw_program, draw_teller, walked, woven
from samples import all_words

MADE_OF = (
    (locked, 1), (locked, 2), (shelved, [7]), (shelved, [-1, 10 ** 9, -1]), (met, 2), (met, 3), (reading, 1), (reading, 2),
)


def renamed(program):
    """The program with all of its kinds, places and names called by new words."""
    kinds = {one[0]: f"q{one[0][:5]}" for one in program[0]}
    words = {word: "z" + "abcdefghijklmnopqrstuvwxyz"[at] for at, word in enumerate(all_words(program))}
    return called(program, kinds=kinds, words=words)


class Written(unittest.TestCase):
    def test_written_read_and_run_again(self):
        """(j), (a): a weaving's run and its program go through texts, and are woven anew."""
        for seed in range(80):
            program = draw_program(seed)
            runner = Runner(program)
            for _ in woven(runner, seed, 30):
                pass
            again = read_program(show_program(program))
            run = read_run(show_run(runner.run()))
            self.assertIs(chooses(again, run), True)
            self.assertEqual(weaving_of(again, run), runner.weaving())
            beside = Runner(again)
            beside.weave(weaving_of(again, run))
            self.assertEqual(beside.seen(), runner.seen())
            self.assertTrue(stand_behind(again, run) == runner.stand())

    def test_plain_runs_too(self):
        for seed in range(80):
            program = draw_program(seed)
            stand = Stand(program)
            for _ in walked(stand, seed, 30):
                pass
            again = read_program(show_program(program))
            self.assertTrue(stand_behind(again, read_run(show_run(stand.done()))) == stand)

    def test_by_a_desk(self):
        for seed in range(40):
            program = draw_program(seed)
            runner = Runner(program)
            desk = Desk()
            desk.say("program " + show_program(program).replace("\n", "; "))
            for _ in woven(runner, seed, 25):
                desk.say(f"go {runner.weaving()[-1]}")
            if len(runner) > 0:
                self.assertEqual(read_run(desk.say("steps").replace("; ", "\n")), runner.run())


class CalledOtherwise(unittest.TestCase):
    def test_called_written_read_and_run(self):
        """(i), (j)."""
        for seed in range(60):
            program = draw_program(seed)
            other = read_program(show_program(renamed(program)))
            self.assertNotEqual(other, program)
            runner, beside = Runner(program), Runner(other)
            for _ in woven(runner, seed, 30):
                beside.go(runner.weaving()[-1])
            self.assertEqual(beside.run(), runner.run())
            self.assertIsNone(first_wrong(other, runner.run()))
            self.assertIs(chooses(other, runner.run()), True)

    def test_made_things_keep_their_words(self):
        for make, made_of in MADE_OF:
            for compiled in (False, True):
                self.assertEqual(ends(renamed(make(made_of)), compiled=compiled), ends(make(made_of), compiled=compiled))


class Ends(unittest.TestCase):
    def test_the_runner_s_are_among_the_plain_reading_s(self):
        """(a): and both ways, where a plain run chooses."""
        looked = 0
        for seed in range(120):
            program = draw_program(seed)
            try:
                plain = {repr(end) for end in ends(program, most=400)}
                compiled = {repr(end) for end in ends(program, most=400, compiled=True)}
            except TooMany:
                continue
            self.assertLessEqual(compiled, plain)
            looked += 1
        self.assertGreater(looked, 30)


class Houses(unittest.TestCase):
    def test_made_things_in_houses(self):
        """(e), (h): lots are moved amid, and the word is kept; the run is one of the plain reading."""
        words = dict(zip((locked, shelved, met, reading), MADE))
        for make, made_of in MADE_OF:
            program = make(made_of)
            told = [repr(end) for end in ends(program)]
            for seed in range(20):
                world = World(program, houses=2 + seed % 3)
                rng = random.Random(seed)
                for _ in range(400):
                    steps = [step for step in world.steps() if step[0] != "move" or rng.random() < 0.2]
                    if not steps and not [step for step in world.steps() if step[0] != "move"]:
                        break
                    if steps:
                        world.do(rng.choice(steps))
                while [step for step in world.steps() if step[0] != "move"]:
                    world.do(world.steps()[0])
                self.assertEqual((world.faults(), world.bodies()), ([], []))
                self.assertIs(keeps(words[make], made_of, world.notes()), True)
                behind = stand_behind(program, read_run(show_run(world.run())))
                self.assertEqual((behind.notes(), behind.lots(), behind.bodies()), (world.notes(), world.lots(), []))
                self.assertIn(repr((tuple(world.notes()), 0, ())), told)

    def test_read_back_worlds(self):
        for seed in range(30):
            program = draw_program(seed)
            world, beside = World(program), World(read_program(show_program(program)))
            for _ in walked(world, seed, 30):
                pass
            for step in self.steps_of(program, seed):
                beside.do(step)
            self.assertTrue(world == beside)

    def steps_of(self, program, seed):
        """The steps of the same walk once more: a world doesn't tell them."""
        world = World(program)
        rng = random.Random(seed)
        done = []
        for _ in range(30):
            steps = world.steps()
            if not steps:
                break
            word = rng.choice(sorted({step[0] for step in steps}))
            done.append(rng.choice([step for step in steps if step[0] == word]))
            world.do(done[-1])
        return done


class LetBy(unittest.TestCase):
    def test_tables_and_rows(self):
        """(f), (g): what is told is let by, and what is told of another one only where it is right."""
        nets = [draw_net(seed) for seed in range(40)]
        tables = []
        for net, marking in nets:
            try:
                tables.append(holds(net, marking))
            except TooMany:
                tables.append(None)
        for (net, marking), told in zip(nets, tables):
            for other in tables:
                if other is not None and told is not None and lets_holds(net, marking, other):
                    self.assertEqual(other[0], told[0])

    def test_tellers(self):
        rng = random.Random(5)
        tellers = [draw_teller(rng, 2) for _ in range(12)]
        told = [likeness(one, other, within=2) for one in tellers for other in tellers]
        for one in tellers:
            for other in tellers:
                word = likeness(one, other, within=2)[0]
                for thing in told:
                    if lets_likeness(one, other, thing, within=2):
                        self.assertEqual(thing[0], word)


if __name__ == "__main__":
    unittest.main()
