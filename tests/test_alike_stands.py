"""Point 9: what a stand tells is the asker's own; twins; when two stands are alike."""

import unittest

from waitedmeets.stands import Stand

from drawn import draw_program, walked
from samples import BOXED, OWN, Thing, all_gone, gone, head, isw, kind, lay, lot_at, of, rule
from test_stands import told

NOTE = ("note", isw(0))


def stand_of(k, main, *steps, more=()):
    """The stand of a program behind main's deeds and these steps."""
    stand = all_gone(Stand(((k, *more), main)))
    for step in steps:
        stand.do(step)
    return stand


class Told(unittest.TestCase):
    def changed(self, thing):
        """Changes a told list or dict, and those within it."""
        if isinstance(thing, dict):
            thing.clear()
            thing["no"] = 1
        else:
            thing.append("no")
            thing.reverse()

    def test_what_is_told_is_the_askers_own(self):
        stand = gone(Stand(BOXED), 0, 5)
        stand.do(("meet", 0, 0, (0, 1)))
        gone(gone(stand, 1), 0)
        stands = [gone(Stand(BOXED), 0, many) for many in (0, 3, 5)] + [stand]
        faulty = gone(Stand((BOXED[0], (("note", of("x")),))), 0)
        for one in stands + [faulty]:
            ahead = told(one)
            for thing in (one.steps(), one.lots(), one.bodies(), one.notes(), one.faults(), one.done()):
                self.changed(thing)
            for lot in range(len(one.lots())):
                self.changed(one.heap(lot))
            for body in one.bodies():
                self.changed(one.names(body[0]))
            self.assertEqual(told(one), ahead)

    def test_a_told_list_does_not_follow_the_stand(self):
        stand = gone(Stand(BOXED), 0, 3)
        lists = (stand.steps(), stand.lots(), stand.heap(0), stand.bodies(), stand.notes(), stand.done())
        ahead = repr(lists)
        gone(stand, 0, 2)
        self.assertEqual(repr(lists), ahead)

    def test_kinds_of_what_is_told(self):
        stand = gone(Stand(BOXED), 0, 5)
        for thing in (stand.steps(), stand.lots(), stand.heap(0), stand.bodies(), stand.notes(), stand.faults(),
                      stand.done()):
            self.assertIs(type(thing), list)
        self.assertIs(type(stand.names(0)), dict)
        self.assertIs(type(stand.seen()), tuple)
        for thing in (*stand.steps(), *stand.heap(0), *stand.bodies(), stand.heap(0)[0][2]):
            self.assertIs(type(thing), tuple)
        self.assertIs(stand.bodies()[0][3], True)

    def test_steps_done(self):
        stand = gone(Stand(BOXED), 0, 5)
        stand.do(("meet", 0, 0, (0, 1)))
        self.assertEqual(stand.done(), [("go", 0)] * 5 + [("meet", 0, 0, (0, 1))])
        self.assertEqual(len(stand), 6)

    def test_asked_twice(self):
        for seed in range(10):
            for stand in walked(Stand(draw_program(seed)), seed, 10):
                self.assertEqual(told(stand), told(stand))


class Twins(unittest.TestCase):
    def test_each_goes_on_by_itself(self):
        for seed in range(25):
            stand = Stand(draw_program(seed))
            for _ in walked(stand, seed, 8):
                pass
            ahead = told(stand)
            twin = stand.twin()
            self.assertEqual(told(twin), ahead)
            self.assertTrue(stand == twin)
            for _ in walked(twin, seed + 1, 10):
                pass
            self.assertEqual(told(stand), ahead)
            again = stand.twin()
            behind = told(again)
            for _ in walked(stand, seed + 2, 10):
                pass
            self.assertEqual(told(again), behind)

    def test_one_that_waits(self):
        stand = gone(Stand(BOXED), 0, 5)
        stand.do(("meet", 0, 0, (0, 1)))
        twin = stand.twin()
        gone(twin, 1)
        self.assertEqual(stand.bodies(), [(0, None, 1, True), (1, 0, 1, False)])
        self.assertEqual(gone(gone(stand, 1), 0).notes(), gone(twin, 0).notes())

    def test_one_that_answered(self):
        k = kind("k", "a0", rule(["a"], ("answer", "a", isw(1)), ("answer", "a", isw(1))))
        stand = stand_of(k, (*lot_at("m", "k", "a"), ("call", "x", of("a"), ())), ("meet", 0, 0, (0,)))
        twin = stand.twin()
        gone(twin, 1)
        self.assertEqual(gone(twin.twin(), 1).faults(), [(1, "twice")])
        self.assertEqual(gone(stand, 1).faults(), [])


class Alike(unittest.TestCase):
    def alike(self, one, other):
        self.assertTrue(one == other)
        self.assertTrue(other == one)
        self.assertFalse(one != other)
        self.assertEqual(one.seen(), other.seen())
        self.assertEqual(hash(one.seen()), hash(other.seen()))

    def unlike(self, one, other):
        self.assertFalse(one == other)
        self.assertFalse(other == one)
        self.assertTrue(one != other)
        self.assertNotEqual(one.seen(), other.seen())

    def test_by_unlike_steps(self):
        k = kind("k", "a0", rule(["a"], ("set", "x", isw(1)), NOTE))
        main = (*lot_at("m", "k", "a"), lay("a"), lay("a"))
        one = stand_of(k, main, ("meet", 0, 0, (0,)), ("meet", 0, 0, (1,)), ("go", 1), ("go", 2))
        self.alike(one, stand_of(k, main, ("meet", 0, 0, (1,)), ("meet", 0, 0, (0,)), ("go", 2), ("go", 1)))
        self.assertNotEqual(one.done(), stand_of(k, main).done())

    def test_names_set_in_another_order(self):
        k = kind("k", "a0", rule(["a"], ("set", "x", isw(1)), ("set", "y", isw(2)), NOTE),
                 rule(["a"], ("set", "y", isw(2)), ("set", "x", isw(1)), NOTE))
        main = (*lot_at("m", "k", "a"), lay("a"))
        one, other = [stand_of(k, main, ("meet", 0, number, (0,)), ("go", 1), ("go", 1)) for number in (0, 1)]
        self.alike(one, other)

    def test_another_many_of_steps(self):
        k = kind("k", "a0", rule(["a"], ("set", "x", isw(1)), ("set", "x", isw(1))), rule(["a"], ("set", "x", isw(1))))
        main = (*lot_at("m", "k", "a"), lay("a"))
        one = stand_of(k, main, ("meet", 0, 0, (0,)), ("go", 1), ("go", 1))
        other = stand_of(k, main, ("meet", 0, 1, (0,)), ("go", 1))
        self.alike(one, other)
        self.assertNotEqual(len(one), len(other))

    def test_a_program_made_apart(self):
        self.alike(Stand(BOXED), Stand(eval(repr(BOXED))))

    def two(self, *rules, places="a0", letters=(lay("a"),), goes=0, more=()):
        """Two stands that differ by which of two rules took the one letter, goes goes later."""
        k = kind("k", places, *rules)
        main = (*lot_at("m", "k", [word[0] for word in places.split()]), *letters)
        return [
            stand_of(k, main, ("meet", 0, number, (0,)), *[("go", 1)] * goes, more=more) for number in range(2)
        ]

    def same_told(self, one, other):
        """They differ in nothing that is told."""
        self.assertEqual((one.lots(), one.bodies(), one.notes(), one.faults()),
                         (other.lots(), other.bodies(), other.notes(), other.faults()))
        self.assertEqual([one.heap(lot) for lot in range(len(one.lots()))],
                         [other.heap(lot) for lot in range(len(other.lots()))])
        for row in one.bodies():
            self.assertEqual(one.names(row[0]), other.names(row[0]))

    def test_a_deed_left(self):
        one, other = self.two(rule(["a"], ("note", isw(1))), rule(["a"], ("note", isw(2))))
        self.same_told(one, other)
        self.unlike(one, other)

    def test_a_deed_left_a_truth_for_a_number(self):
        one, other = self.two(rule(["a"], ("note", isw(1))), rule(["a"], ("note", isw(True))))
        self.same_told(one, other)
        self.unlike(one, other)

    def test_how_many_deeds_are_left(self):
        self.unlike(*self.two(rule(["a"], NOTE), rule(["a"], NOTE, NOTE)))

    def test_an_asker(self):
        k = kind("k", "a0", rule(["a"], NOTE, ("answer", "a", isw(1))))
        main = (*lot_at("m", "k", "a"), lay("a"), ("call", "x", of("a"), ()))
        one = stand_of(k, main, ("meet", 0, 0, (0,)), ("meet", 0, 0, (1,)))
        other = stand_of(k, main, ("meet", 0, 0, (1,)), ("meet", 0, 0, (0,)))
        self.same_told(one, other)
        self.unlike(one, other)

    def test_which_of_two_heads_has_the_asker(self):
        k = kind("k", "a0 b0", rule(["a", "b"], ("answer", "a", isw(1))))
        asks = kind("l", "p1", rule([head("p", "q")], ("call", "x", of("q"), ())), rule([head("p", "q")], ("lay", of("q"), ())))
        main = (*lot_at("m", "k", "ab"), *lot_at("n", "l", "p"), ("lay", of("p"), (of("a"),)), ("lay", of("p"), (of("b"),)))
        stands = []
        for rule_a, rule_b in ((0, 1), (1, 0)):
            stand = all_gone(Stand(((k, asks), main)))
            # Body 1 asks, body 2 doesn't, whichever place it is.
            bodies = {rule_a: 0, rule_b: 1}
            stand.do(("meet", 1, 0, (bodies[0],)))
            stand.do(("meet", 1, 1, (bodies[1],)))
            gone(gone(stand, 1), 2)
            letters = {letter[1]: letter[0] for letter in stand.heap(0)}
            stand.do(("meet", 0, 0, (letters["a"], letters["b"])))
            stands.append(stand)
        one, other = stands
        self.assertEqual(one.bodies(), other.bodies())
        self.unlike(one, other)

    def test_the_next_letters_number(self):
        k = kind("k", "a0 b0", rule(["a"], ("put", "b", ())), rule(["a"], ("set", "x", isw(1))), rule(["b"]))
        main = (*lot_at("m", "k", "ab"), lay("a"))
        one = stand_of(k, main, ("meet", 0, 0, (0,)), ("go", 1), ("meet", 0, 2, (1,)))
        other = stand_of(k, main, ("meet", 0, 1, (0,)), ("go", 1))
        self.same_told(one, other)
        self.unlike(one, other)

    def test_the_next_bodys_number(self):
        one, other = self.two(rule(["a"], ("set", "x", isw(1))), rule(["a"]), goes=0)
        gone(one, 1)
        self.same_told(one, other)
        self.unlike(one, other)

    def test_the_name_for_which_one_waits(self):
        one, other = self.two(rule([head("a", "p")], ("call", "x", of("p"), ()), NOTE),
                              rule([head("a", "p")], ("call", "y", of("p"), ()), NOTE),
                              places="a1 b0", letters=(("lay", of("a"), (of("b"),)),), goes=1)
        self.same_told(one, other)
        self.unlike(one, other)

    def test_names_and_their_worths(self):
        self.unlike(*self.two(rule([head("a", "v")], NOTE), rule([head("a", "w")], NOTE), places="a1",
                              letters=(lay("a", 1),)))
        for worth in (2, True, OWN):
            operand = worth if worth == OWN else isw(worth)
            self.unlike(*self.two(rule(["a"], ("set", "x", isw(1)), NOTE), rule(["a"], ("set", "x", operand), NOTE),
                                  goes=1))

    def test_notes_and_faults(self):
        self.unlike(*self.two(rule(["a"], ("note", isw(1))), rule(["a"], ("note", isw(True))), goes=1))
        self.unlike(*self.two(rule(["a"], ("note", isw(0))), rule(["a"], ("set", "x", isw(1))), goes=1))
        self.unlike(*self.two(rule(["a"], ("note", of("no"))), rule(["a"], ("lay", OWN, ())), goes=1))

    def test_heaps(self):
        for other in (True, 2):
            self.unlike(*self.two(rule(["a"], ("put", "b", (isw(1),))), rule(["a"], ("put", "b", (isw(other),))),
                                  places="a0 b1", goes=1))
        self.unlike(*self.two(rule(["a"], ("put", "b", ())), rule(["a"], ("put", "c", ())), places="a0 b0 c0", goes=1))

    def test_lots(self):
        self.unlike(*self.two(rule(["a"], ("make", "x", "k")), rule(["a"], ("make", "x", "l")), goes=1,
                              more=(kind("l", "a0"),)))

    def test_programs(self):
        for one, other in ((isw(1), isw(True)), (isw(0), isw(False)), (isw(1), isw(2))):
            # The deed is done in neither, so that nothing else tells them apart.
            programs = [((kind("k", "a0", rule(["a"], ("note", a))),), ()) for a in (one, other)]
            self.unlike(Stand(programs[0]), Stand(programs[1]))
            programs = [((kind("k", "a1", rule([head("a", a[1])])),), ()) for a in (one, other)]
            self.unlike(Stand(programs[0]), Stand(programs[1]))

    def test_to_nothing_else(self):
        stand = gone(Stand(BOXED), 0, 2)
        for other in (None, 0, (), BOXED, stand.seen(), stand.done(), Thing(), "stand", Stand):
            self.assertFalse(stand == other)
            self.assertFalse(other == stand)
            self.assertTrue(stand != other)

    def test_seen_has_just_the_told_kinds(self):
        def leaves(thing):
            return [leaf for part in thing for leaf in leaves(part)] if isinstance(thing, tuple) else [thing]
        for seed in range(20):
            for stand in walked(Stand(draw_program(seed)), seed, 10):
                for leaf in leaves(stand.seen()):
                    self.assertIn(type(leaf), (str, int, bool, type(None)))

    def test_drawn_ones(self):
        """Alike just where all told, and what comes of all further steps in a while, is the same."""
        for seed in range(30):
            stand = Stand(draw_program(seed))
            stands = [stand.twin()] + [one.twin() for one in walked(stand, seed, 12)]
            for number, one in enumerate(stands):
                for other in stands[:number]:
                    self.assertEqual(one == other, one.seen() == other.seen())
                    if one == other:
                        self.assertEqual(one.steps(), other.steps())


if __name__ == "__main__":
    unittest.main()
