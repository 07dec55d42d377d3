"""Point 8: what each deed does, and each fault."""

import unittest

from waitedmeets.stands import Stand
from waitedmeets.worths import MOST

from samples import BOX, BOXED, OWN, all_gone, gone, head, isw, kind, lay, lot_at, of, rule

PLAIN = kind("k", "a0 b1 c2 d3")
LOT = ("lot", 0)


def after_main(*deeds, kinds=(PLAIN,)):
    """A stand in which main has gone on as far as it can."""
    return all_gone(Stand((kinds, deeds)))


def met(deeds, *letters, heads=("a",), places="a0 b1 c2 d3"):
    """A stand in which main has laid letters at a lot k, and its one rule has met the first ones."""
    k = kind("k", places, rule(heads, *deeds))
    stand = after_main(*lot_at("m", "k", [word[:-1] for word in places.split()]), *letters, kinds=(k,))
    stand.do(stand.steps()[-1])
    return stand


class Faults(unittest.TestCase):
    def faulty(self, word, *deeds):
        """Main's last deed is a fault of this word, ahead of which there is none."""
        stand = after_main(*deeds[:-1])
        self.assertEqual(stand.faults(), [])
        stand = after_main(*deeds, ("note", isw(1)))
        self.assertEqual(stand.faults(), [(0, word)], deeds[-1])
        self.assertEqual((stand.bodies(), stand.notes(), stand.steps()), ([], [], []))

    def test_unset(self):
        made = lot_at("m", "k", "ab")
        no = of("no")
        for deed in (
            ("set", "x", no), ("let", "x", "plus", no, isw(1)), ("let", "x", "plus", isw(1), no), ("note", no),
            ("let", "x", "same", no, no), ("place", "x", no, "a"), ("lay", no, ()), ("lay", of("b"), (no,)),
            ("call", "x", no, ()), ("call", "x", of("b"), (no,)),
        ):
            self.faulty("unset", *made, deed)
        self.assertEqual(after_main(("when", no, 1), ("note", isw(1))).faults(), [(0, "unset")])

    def test_unset_ahead_of_all_others(self):
        made = lot_at("m", "k", "ab")
        no = of("no")
        for deed in (
            ("let", "x", "plus", isw(True), no), ("let", "x", "plus", no, of("m")), ("place", "x", no, "z"),
            ("lay", isw(1), (no,)), ("lay", of("a"), (isw(1), no)), ("lay", of("m"), (no, no, no)),
            ("call", "x", isw(1), (no,)), ("call", "x", of("a"), (isw(1), isw(1), no)), ("lay", no, (isw(1),) * 3),
        ):
            self.faulty("unset", *made, deed)

    def test_lets_own(self):
        for word in ("plus", "minus", "times", "below"):
            for other in (isw(True), isw(False), of("m"), of("a")):
                self.faulty("kind", *lot_at("m", "k", "a"), ("let", "x", word, isw(MOST), other))
                self.faulty("kind", *lot_at("m", "k", "a"), ("let", "x", word, other, isw(1)))
        self.faulty("great", ("let", "x", "plus", isw(MOST), isw(1)))
        self.faulty("great", ("let", "x", "minus", isw(-MOST), isw(1)))
        self.faulty("great", ("let", "x", "times", isw(MOST), isw(-2)))

    def test_place_of_no_lot(self):
        for a in (isw(0), isw(True), of("a")):
            self.faulty("kind", *lot_at("m", "k", "a"), ("place", "x", a, "a"))

    def test_kind_ahead_of_place(self):
        for a in (isw(0), isw(False), of("a")):
            self.faulty("kind", *lot_at("m", "k", "a"), ("place", "x", a, "z"))

    def test_place_that_the_kind_has_not(self):
        self.faulty("place", *lot_at("m", "k", "a"), ("place", "x", of("m"), "z"))
        stand = after_main(("make", "m", "l"), ("place", "x", of("m"), "a"), kinds=(PLAIN, kind("l", "e0")))
        self.assertEqual(stand.faults(), [(0, "place")])

    def test_letters_to_no_place(self):
        for a in (isw(0), isw(True), of("m")):
            for given in ((), (isw(1),), (isw(1),) * 3):
                self.faulty("kind", *lot_at("m", "k", "a"), ("lay", a, given))
                self.faulty("kind", *lot_at("m", "k", "a"), ("call", "x", a, given))

    def test_letters_with_another_many(self):
        for at, place in enumerate("abcd"):
            for many in range(4):
                deeds = (*lot_at("m", "k", "abcd"), ("lay", of(place), (isw(1),) * many))
                call = (*deeds[:-1], ("call", "x", *deeds[-1][1:]))
                if many != at:
                    self.faulty("many", *deeds)
                    self.faulty("many", *call)
                else:
                    self.assertEqual(after_main(*deeds).heap(0), [(0, place, (1,) * many, None)])
                    self.assertEqual(after_main(*call).heap(0), [(0, place, (1,) * many, 0)])

    def test_a_letter_that_is_none_uses_no_number(self):
        k = kind("k", "a0", rule(["a"], ("put", "a", ())))
        stand = after_main(*lot_at("m", "k", "a"), lay("a"), lay("a", 1), kinds=(k,))
        self.assertEqual(stand.faults(), [(0, "many")])
        stand.do(("meet", 0, 0, (0,)))
        gone(stand, 1)
        self.assertEqual(stand.heap(0), [(1, "a", (), None)])

    def test_when_of_no_truth(self):
        for a in (isw(0), isw(1), of("m"), of("a")):
            stand = after_main(*lot_at("m", "k", "a"), ("when", a, 1), ("note", isw(1)), ("note", isw(2)))
            self.assertEqual((stand.faults(), stand.notes(), stand.bodies()), ([(0, "kind")], [], []))

    def test_letters_stay_and_later_deeds_are_not_done(self):
        stand = after_main(*lot_at("m", "k", "a"), lay("a"), ("note", isw(1)), ("note", of("no")), lay("a"),
                           ("note", isw(2)))
        self.assertEqual((stand.faults(), stand.notes(), stand.bodies()), ([(0, "unset")], [1], []))
        self.assertEqual(stand.heap(0), [(0, "a", (), None)])
        self.assertEqual(len(stand), 5)

    def test_told_in_their_order(self):
        stand = met([("note", of("no"))], lay("a"), lay("a"), ("note", isw(True)), ("let", "x", "plus", isw(True), isw(1)))
        stand.do(("meet", 0, 0, (0,)))
        gone(gone(stand, 2), 1)
        self.assertEqual(stand.faults(), [(0, "kind"), (2, "unset"), (1, "unset")])

    def test_put_with_an_unset_name(self):
        stand = gone(met([("put", "b", (of("no"),))], lay("a")), 1)
        self.assertEqual((stand.faults(), stand.heap(0), stand.bodies()), ([(1, "unset")], [], []))


class Worths(unittest.TestCase):
    def test_set(self):
        stand = Stand(((PLAIN,), (("set", "x", isw(True)), ("set", "y", of("x")), ("set", "x", isw(3)),
                                  ("note", of("x")), ("note", of("y")))))
        gone(stand, 0, 3)
        self.assertEqual(repr(sorted(stand.names(0).items())), "[('x', 3), ('y', True)]")
        self.assertEqual(repr(all_gone(stand).notes()), "[3, True]")

    def test_let(self):
        for word, one, other, worth in (
            ("plus", MOST - 1, 1, MOST), ("plus", 1 - MOST, -1, -MOST), ("minus", -1, MOST - 1, -MOST),
            ("minus", MOST - 1, -1, MOST), ("times", 31250, -32000, -MOST), ("below", 1, 2, True),
            ("below", 2, 2, False), ("same", 1, True, False), ("same", False, False, True), ("same", 0, False, False),
        ):
            stand = after_main(("let", "x", word, isw(one), isw(other)), ("note", of("x")))
            self.assertEqual(repr(stand.notes()), repr([worth]), (word, one, other))

    def test_sums_one_beyond_the_bounds(self):
        for word, one, other in (
            ("plus", MOST, 1), ("plus", -MOST, -1), ("minus", -2, MOST - 1), ("minus", MOST, -1),
            ("times", 19, 52631579), ("times", -19, 52631579),
        ):
            stand = after_main(("let", "x", word, isw(one), isw(other)), ("note", of("x")))
            self.assertEqual((stand.faults(), stand.notes()), ([(0, "great")], []))

    def test_same_of_lots_and_places(self):
        deeds = [("make", "m", "k"), ("make", "n", "k"), ("place", "p", of("m"), "a"), ("place", "q", of("m"), "a"),
                 ("place", "r", of("n"), "a")]
        for one, other in ("mm", "mn", "pq", "pr", "mp"):
            deeds += [("let", "x", "same", of(one), of(other)), ("note", of("x"))]
        stand = after_main(*deeds)
        self.assertEqual(stand.notes(), [True, False, True, False, False])

    def test_make_and_place(self):
        stand = after_main(("make", "x", "k"), ("make", "y", "l"), ("make", "x", "k"), ("note", of("x")),
                           ("note", of("y")), ("place", "z", of("y"), "e"), ("note", of("z")),
                           kinds=(PLAIN, kind("l", "e0")))
        self.assertEqual(stand.lots(), ["k", "l", "k"])
        self.assertEqual(stand.notes(), [("lot", 2), ("lot", 1), ("place", 1, "e")])

    def test_own(self):
        stand = met([("note", OWN), ("place", "x", OWN, "b"), ("lay", of("x"), (OWN,))], lay("a"))
        gone(stand, 1, 3)
        self.assertEqual((stand.notes(), stand.faults()), ([LOT], []))
        self.assertEqual(stand.heap(0), [(1, "b", (LOT,), None)])

    def test_note_of_each_worth(self):
        stand = after_main(*lot_at("m", "k", "a"), *[("note", a) for a in (isw(1), isw(True), of("m"), of("a"))])
        self.assertEqual(repr(stand.notes()), "[1, True, ('lot', 0), ('place', 0, 'a')]")


class Letters(unittest.TestCase):
    def test_lay_carries_worths_of_its_time(self):
        stand = after_main(*lot_at("m", "k", "ac"), ("set", "x", isw(1)), ("lay", of("c"), (of("x"), of("m"))),
                           ("set", "x", isw(True)), ("lay", of("c"), (of("a"), of("x"))))
        self.assertEqual(repr(stand.heap(0)),
                         "[(0, 'c', (1, ('lot', 0)), None), (1, 'c', (('place', 0, 'a'), True), None)]")

    def test_lay_to_another_lot(self):
        stand = after_main(("make", "m", "k"), ("make", "n", "k"), ("place", "p", of("n"), "b"),
                           ("lay", of("p"), (of("m"),)))
        self.assertEqual((stand.heap(0), stand.heap(1)), ([], [(0, "b", (LOT,), None)]))

    def test_put_comes_to_the_own_lot(self):
        k = kind("k", "a0 c2", rule(["a"], ("put", "c", (isw(True), OWN))))
        stand = after_main(("make", "m", "k"), ("make", "n", "k"), ("place", "p", of("n"), "a"), lay("p"), kinds=(k,))
        stand.do(("meet", 1, 0, (0,)))
        gone(stand, 1)
        self.assertEqual(stand.heap(0), [])
        self.assertEqual(repr(stand.heap(1)), "[(1, 'c', (True, ('lot', 1)), None)]")


class Calls(unittest.TestCase):
    def test_answered(self):
        stand = gone(Stand(BOXED), 0, 5)
        self.assertEqual(stand.heap(0), [(0, "put", (7,), None), (1, "get", (), 0)])
        self.assertEqual(stand.bodies(), [(0, None, 1, True)])
        stand.do(("meet", 0, 0, (0, 1)))
        self.assertEqual(stand.bodies(), [(0, None, 1, True), (1, 0, 1, False)])
        gone(stand, 1)
        self.assertEqual(stand.bodies(), [(0, None, 1, False)])
        self.assertEqual(stand.names(0)["x"], 7)
        gone(stand, 0)
        self.assertEqual((stand.notes(), stand.bodies(), stand.faults()), ([7], [], []))

    def test_the_answer_is_told_to_its_name_alone(self):
        stand = met([("answer", "a", isw(True))], ("set", "x", isw(3)), ("set", "y", isw(4)), ("call", "x", of("a"), ()),
                    ("note", of("x")), places="a0")
        gone(stand, 1)
        self.assertEqual(repr(sorted(stand.names(0).items())),
                         "[('a', ('place', 0, 'a')), ('m', ('lot', 0)), ('x', True), ('y', 4)]")

    def test_goes_on_ahead_of_the_end_of_who_answers(self):
        stand = met([("answer", "a", isw(1)), ("note", isw(2))], ("call", "x", of("a"), ()), ("note", of("x")))
        gone(gone(stand, 1), 0)
        self.assertEqual((stand.notes(), stand.bodies()), ([1], [(1, 0, 1, False)]))

    def test_answered_twice(self):
        stand = met([("answer", "a", isw(1)), ("answer", "a", isw(2)), ("note", isw(3))],
                    ("call", "x", of("a"), ()), ("note", of("x")))
        gone(stand, 1, 2)
        self.assertEqual((stand.faults(), stand.bodies()), ([(1, "twice")], [(0, None, 1, False)]))
        self.assertEqual(stand.names(0)["x"], 1)
        self.assertEqual(gone(stand, 0).notes(), [1])

    def test_unset_ahead_of_twice(self):
        stand = met([("answer", "a", isw(1)), ("answer", "a", of("no"))], ("call", "x", of("a"), ()), ("note", isw(1)))
        self.assertEqual(gone(stand, 1, 2).faults(), [(1, "unset")])

    def test_twice_of_an_asker_that_is_gone(self):
        stand = met([("answer", "a", isw(1)), ("answer", "a", isw(2))], ("call", "x", of("a"), ()))
        gone(stand, 1)
        self.assertEqual(stand.bodies(), [(1, 0, 1, False)])
        self.assertEqual(gone(stand, 1).faults(), [(1, "twice")])

    def test_unset_ahead_of_an_answer(self):
        stand = met([("answer", "a", of("no"))], ("call", "x", of("a"), ()), ("note", isw(1)))
        gone(stand, 1)
        self.assertEqual((stand.faults(), stand.bodies()), ([(1, "unset")], [(0, None, 1, True)]))

    def test_to_a_letter_without_asker(self):
        stand = met([("answer", "a", isw(1)), ("answer", "a", isw(1)), ("answer", "a", isw(2)), ("note", isw(3))],
                    lay("a"), ("note", isw(0)))
        ahead = stand.bodies()[:-1]
        gone(stand, 1, 4)
        self.assertEqual((stand.faults(), stand.notes(), stand.bodies()), ([], [0, 3], ahead))

    def test_unset_to_a_letter_without_asker(self):
        stand = met([("answer", "a", of("no"))], lay("a"))
        self.assertEqual(gone(stand, 1).faults(), [(1, "unset")])

    def test_as_the_last_deed(self):
        stand = met([("answer", "a", isw(1)), ("note", isw(2))], ("call", "x", of("a"), ()))
        self.assertEqual(stand.bodies(), [(0, None, 0, True), (1, 0, 2, False)])
        gone(stand, 1)
        self.assertEqual(stand.bodies(), [(1, 0, 1, False)])
        self.assertEqual(stand.steps(), [("go", 1)])

    def test_never_as_none_takes_it(self):
        stand = after_main(*lot_at("m", "k", "a"), ("call", "x", of("a"), ()), ("note", of("x")))
        self.assertEqual((stand.steps(), stand.bodies()), ([], [(0, None, 1, True)]))
        self.assertEqual(stand.heap(0), [(0, "a", (), 0)])

    def test_never_as_the_rule_has_no_deeds(self):
        stand = met([], ("call", "x", of("a"), ()), ("note", of("x")))
        self.assertEqual((stand.steps(), stand.bodies(), stand.heap(0)), ([], [(0, None, 1, True)], []))

    def test_never_as_the_taker_ended_without_answer(self):
        for deed, faults in ((("note", isw(1)), []), (("note", of("no")), [(1, "unset")])):
            stand = gone(met([deed], ("call", "x", of("a"), ()), ("note", of("x"))), 1)
            self.assertEqual((stand.steps(), stand.bodies(), stand.faults()), ([], [(0, None, 1, True)], faults))

    def test_just_the_letter_that_asked(self):
        """Two ask by letters at two places; each is told what is answered to its own."""
        k = kind("k", "a0 b0", rule(["a", "b"], ("answer", "b", isw(2)), ("answer", "a", isw(1))))
        asks = kind("l", "p1", rule([head("p", "q")], ("call", "x", of("q"), ()), ("note", OWN), ("note", of("x"))))
        main = (*lot_at("m", "k", "ab"), *lot_at("n", "l", "p"), ("lay", of("p"), (of("a"),)),
                ("lay", of("p"), (of("b"),)))
        stand = all_gone(Stand(((k, asks), main)))
        stand.do(("meet", 1, 0, (1,)))
        stand.do(("meet", 1, 0, (0,)))
        gone(gone(stand, 1), 2)
        self.assertEqual(stand.heap(0), [(2, "b", (), 1), (3, "a", (), 2)])
        stand.do(("meet", 0, 0, (3, 2)))
        gone(stand, 3)
        self.assertEqual((stand.names(1)["x"], "x" in stand.names(2)), (2, False))
        self.assertEqual([row[3] for row in stand.bodies()], [False, True, False])
        gone(stand, 3)
        self.assertEqual(stand.names(2)["x"], 1)

    def test_a_call_by_a_body_of_a_lot(self):
        k = kind("k", "a0", rule(["a"], ("make", "b", "box"), ("place", "p", of("b"), "put"),
                                 ("lay", of("p"), (OWN,)), ("place", "g", of("b"), "get"),
                                 ("call", "x", of("g"), ()), ("note", of("x"))))
        stand = after_main(*lot_at("m", "k", "a"), lay("a"), kinds=(k, BOX))
        stand.do(("meet", 0, 0, (0,)))
        gone(stand, 1, 5)
        self.assertEqual(stand.heap(1), [(1, "put", (LOT,), None), (2, "get", (), 1)])
        stand.do(("meet", 1, 0, (1, 2)))
        self.assertEqual(gone(gone(stand, 2), 1).notes(), [LOT])


class Whens(unittest.TestCase):
    def notes_by(self, worth, many):
        stand = after_main(("when", isw(worth), many), *[("note", isw(n)) for n in range(3)])
        self.assertEqual(stand.faults(), [])
        return stand.notes()

    def test_true_leaves_nothing_out(self):
        for many in (1, 2, 3):
            self.assertEqual(self.notes_by(True, many), [0, 1, 2])

    def test_false_leaves_out_the_next(self):
        self.assertEqual([self.notes_by(False, many) for many in (1, 2, 3)], [[1, 2], [2], []])

    def test_all_left_out_the_body_is_gone(self):
        stand = gone(Stand(((PLAIN,), (("when", isw(False), 2), ("note", isw(1)), ("note", isw(2))))), 0)
        self.assertEqual((stand.bodies(), stand.steps()), ([], []))

    def test_how_many_are_left(self):
        stand = gone(Stand(((PLAIN,), (("when", isw(False), 2), *[("note", isw(n)) for n in range(5)]))), 0)
        self.assertEqual(stand.bodies(), [(0, None, 3, False)])

    def test_what_is_left_out_may_be_wrong(self):
        stand = after_main(("when", isw(False), 1), ("note", of("no")), ("note", isw(1)))
        self.assertEqual((stand.faults(), stand.notes()), ([], [1]))


if __name__ == "__main__":
    unittest.main()
