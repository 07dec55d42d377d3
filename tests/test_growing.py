"""Point 22: what a net can come to hold, closed or growing."""

import itertools
import unittest

from waitedmeets.errors import MeetError, NoMarking, NoNet, NoNumber, TooMany
from waitedmeets.growing import holds, lets_holds
from waitedmeets.nets import behind, can
from waitedmeets.stands import Stand

from drawn import draw_net, walked
from samples import BOX, JUNK, Thing, head, kind, lay, lot_at, rule


def puts(*places):
    return [("put", place, ()) for place in places]


# A letter goes round from a to b to c, and may be split at c where a second rule is there.
ROUND = kind("k", "a0 b0 c0", rule(["a"], *puts("b")), rule(["b"], *puts("c")), rule(["c"], *puts("a")))
SPLIT = kind("k", "a0 b0 c0", rule(["a"], *puts("b")), rule(["b"], *puts("c")), rule(["c"], *puts("a", "a")))
IDLE = kind("k", "a0 b1")
COUNTS = kind("k", "a0 b0", rule(["a"], *puts("b")))
# Its first rule leaves all as it was; only the second one lets it grow, and only where b is there.
LATE = kind("k", "a0 b0 c0", rule(["a"], *puts("a")), rule(["a", "b"], *puts("a", "b", "c")), rule(["c"]))


def come_to(net, first, most=5000):
    """All markings that are come to, by what nets tells alone; None of too many."""
    met = [first]
    for marking in met:
        for number in can(net, marking):
            there = behind(net, marking, number)
            if there not in met:
                met.append(there)
        if len(met) > most:
            return None
    return met


def gone_on(net, marking, rules):
    for number in rules:
        marking = behind(net, marking, number)
    return marking


def is_more(marking, other):
    return marking != other and all(many >= least for many, least in zip(marking, other))


class Closed(unittest.TestCase):
    def test_by_hand(self):
        for net, marking, wanted in (
            (IDLE, (0, 0), [(0, 0)]), (IDLE, (3, 7), [(3, 7)]), (ROUND, (0, 0, 0), [(0, 0, 0)]),
            (ROUND, (0, 1, 0), [(0, 0, 1), (0, 1, 0), (1, 0, 0)]),
            (ROUND, (2, 0, 0), [(0, 0, 2), (0, 1, 1), (0, 2, 0), (1, 0, 1), (1, 1, 0), (2, 0, 0)]),
            (COUNTS, (3, 1), [(0, 4), (1, 3), (2, 2), (3, 1)]), (SPLIT, (0, 0, 0), [(0, 0, 0)]),
            (LATE, (2, 0, 1), [(2, 0, 0), (2, 0, 1)]),
        ):
            self.assertEqual(holds(net, marking), ("closed", wanted))

    def test_arguments_by_their_names(self):
        self.assertEqual(holds(most=4, marking=(3, 0), net=COUNTS), ("closed", [(0, 3), (1, 2), (2, 1), (3, 0)]))
        self.assertIs(lets_holds(thing=("closed", [(0, 0)]), marking=(0, 0), net=COUNTS), True)
        with self.assertRaises(TypeError):
            holds(COUNTS, (3, 0), 4)

    def test_kinds_of_what_is_told(self):
        told = holds(COUNTS, (1, 0))
        self.assertEqual(repr(told), "('closed', [(0, 1), (1, 0)])")
        told = holds(SPLIT, (1, 0, 0))
        self.assertIs(type(told), tuple)
        self.assertEqual([type(piece) for piece in told], [str, list, list])

    def test_great_numbers(self):
        self.assertEqual(holds(ROUND, (0, 0, 0)), ("closed", [(0, 0, 0)]))
        self.assertEqual(holds(IDLE, (10 ** 59, 0)), ("closed", [(10 ** 59, 0)]))
        with self.assertRaises(TooMany) as caught:
            holds(COUNTS, (10 ** 59, 0))
        self.assertEqual(caught.exception.many, 501)

    def test_long_ways(self):
        self.assertEqual(len(holds(COUNTS, (4999, 0), most=5000)[1]), 5000)
        doubled = kind("k", "a0 b0", rule(["a"], *puts("b", "b")))
        self.assertEqual(holds(doubled, (2, 1)), ("closed", [(0, 5), (1, 3), (2, 1)]))


class Grows(unittest.TestCase):
    def told(self, net, marking, **more):
        told = holds(net, marking, **more)
        self.assertEqual(told[0], "grows")
        _, stem, lap = told
        self.assertGreater(len(lap), 0)
        ahead = gone_on(net, marking, stem)
        self.assertTrue(is_more(gone_on(net, ahead, lap), ahead))
        self.assertIs(lets_holds(net, marking, told), True)
        return stem, lap

    def test_by_hand(self):
        self.assertEqual(self.told(kind("k", "a0", rule(["a"], *puts("a", "a"))), (1,)), ([], [0]))
        self.assertEqual(self.told(kind("k", "a0 b0", rule(["a"], *puts("a", "b"))), (1, 0)), ([], [0]))
        self.assertEqual(self.told(SPLIT, (1, 0, 0)), ([], [0, 1, 2]))
        self.assertEqual(self.told(SPLIT, (0, 0, 1)), ([], [2, 0, 1]))
        self.assertEqual(self.told(LATE, (1, 1, 0)), ([], [1]))

    def test_behind_a_stem(self):
        net = kind("k", "a0 b0 c0", rule(["a"], *puts("b")), rule(["b"], *puts("b", "c")))
        stem, lap = self.told(net, (1, 0, 0))
        self.assertEqual((stem, lap), ([0], [1]))

    def test_fewer_at_a_place_is_not_growing(self):
        # Each rule makes three of one, but of what is never made again.
        net = kind("k", "a0 b0 c0", rule(["a"], *puts("b", "b", "b")), rule(["b"], *puts("c", "c", "c")))
        told = holds(net, (2, 0, 0))
        self.assertEqual(told[0], "closed")
        self.assertEqual(told[1], sorted(come_to(net, (2, 0, 0))))

    def test_more_than_another_one_but_not_on_its_own_way(self):
        # (0, 1, 1) is more than (0, 0, 1), to which another rule leads; neither leads to the other.
        net = kind("k", "a0 b0 c0", rule(["a"], *puts("c")), rule(["a"], *puts("b", "c")))
        self.assertEqual(holds(net, (1, 0, 0)), ("closed", [(0, 0, 1), (0, 1, 1), (1, 0, 0)]))

    def test_the_same_once_more_is_not_growing(self):
        self.assertEqual(holds(kind("k", "a0", rule(["a"], *puts("a"))), (1,)), ("closed", [(1,)]))

    def test_it_grows_though_most_are_come_to_otherwise(self):
        net = kind("k", "a0 b0 c0", rule(["a"], *puts("b")), rule(["b", "c"], *puts("c", "a", "a")))
        self.told(net, (1, 0, 1))
        self.assertEqual(holds(net, (3, 0, 0))[0], "closed")


class Most(unittest.TestCase):
    def too_many(self, net, marking, most):
        with self.assertRaises(TooMany) as caught:
            holds(net, marking, most=most)
        self.assertEqual(caught.exception.many, most + 1)
        self.assertIsInstance(caught.exception, OverflowError)

    def test_just_as_many_and_one_less(self):
        for net, marking, many in ((COUNTS, (3, 0), 4), (ROUND, (2, 0, 0), 6), (IDLE, (1, 1), 1), (COUNTS, (1, 0), 2)):
            self.assertEqual(len(holds(net, marking, most=many)[1]), many)
            if many > 1:
                self.too_many(net, marking, many - 1)

    def test_none_told_is_500(self):
        self.assertEqual(len(holds(COUNTS, (499, 0))[1]), 500)
        with self.assertRaises(TooMany) as caught:
            holds(COUNTS, (500, 0))
        self.assertEqual(caught.exception.many, 501)

    def test_bounds(self):
        self.assertEqual(holds(IDLE, (0, 0), most=1)[0], "closed")
        self.assertEqual(holds(IDLE, (0, 0), most=5000)[0], "closed")
        self.too_many(COUNTS, (10 ** 9, 0), 5000)
        self.too_many(COUNTS, (1, 0), 1)

    def test_the_one_by_which_it_grows_counts(self):
        net = kind("k", "a0", rule(["a"], *puts("a", "a")))
        self.too_many(net, (1,), 1)
        self.assertEqual(holds(net, (1,), most=2), ("grows", [], [0]))
        self.too_many(SPLIT, (1, 0, 0), 3)
        self.assertEqual(holds(SPLIT, (1, 0, 0), most=4)[0], "grows")

    def test_gone_through_by_how_many_rules_lead_there(self):
        # By rule 1 it grows at once: behind it (0, 1, 0), the first marking, and the one that is more, none is come to.
        net = kind("k", "a0 b0 c0", rule(["a"], *puts("b")), rule(["a"], *puts("a", "c")), rule(["b"], *puts("c")))
        self.too_many(net, (1, 0, 0), 2)
        self.assertEqual(holds(net, (1, 0, 0), most=3), ("grows", [], [1]))

    def test_no_numbers(self):
        for thing in (0, 5001, -1, True, False, None, "500", (1,), [500], {}, b"1", 10 ** 59, Thing()):
            with self.assertRaises(NoNumber):
                holds(COUNTS, (1, 0), most=thing)


class Lets(unittest.TestCase):
    TABLE = [(0, 3), (1, 2), (2, 1), (3, 0)]

    def lets(self, thing, net=COUNTS, marking=(3, 0)):
        told = lets_holds(net, marking, thing)
        self.assertIsInstance(told, bool)
        return told

    def test_closed_in_any_order(self):
        for rows in itertools.permutations(self.TABLE):
            self.assertIs(self.lets(("closed", list(rows))), True)

    def test_closed_with_more_that_is_closed(self):
        self.assertIs(self.lets(("closed", [*self.TABLE, (0, 9)])), True)
        self.assertIs(self.lets(("closed", [*self.TABLE, (0, 9), (1, 8)])), True)
        self.assertIs(self.lets(("closed", [*self.TABLE, (1, 8)])), False)
        self.assertIs(self.lets(("closed", [*self.TABLE, (0, 0)])), True)

    def test_closed_with_fewer_twice_others(self):
        for at in range(4):
            self.assertIs(self.lets(("closed", self.TABLE[:at] + self.TABLE[at + 1:])), False)
            self.assertIs(self.lets(("closed", [*self.TABLE, self.TABLE[at]])), False)
            other = [*self.TABLE[:at], (7, 7), *self.TABLE[at + 1:]]
            self.assertIs(self.lets(("closed", other)), False)
        self.assertIs(self.lets(("closed", [])), False)

    def test_closed_without_the_first_one(self):
        self.assertIs(self.lets(("closed", [(0, 3), (1, 2), (2, 1)])), False)
        self.assertIs(self.lets(("closed", [(0, 4), (1, 3)])), False)

    def test_rows_that_are_no_markings(self):
        for row in ((False, 9), (0, True), (-1, 3), (0,), (0, 9, 0), [0, 9], "09", None, 5, ("0", 9), ((0,), 9), Thing(), {}):
            self.assertIs(self.lets(("closed", [*self.TABLE, row])), False)
        self.assertIs(self.lets(("closed", [(0, 1), (True, 0)]), marking=(1, 0)), False)
        self.assertIs(self.lets(("closed", [(False, 1), (1, 0)]), marking=(1, 0)), False)
        self.assertIs(self.lets(("closed", [(0, 1), (1, 0)]), marking=(1, 0)), True)

    def test_other_forms(self):
        self.assertIs(self.lets(("closed", tuple(self.TABLE))), False)
        self.assertIs(self.lets(["closed", self.TABLE]), False)
        self.assertIs(self.lets(("close", self.TABLE)), False)
        self.assertIs(self.lets(("closed", self.TABLE, [])), False)
        self.assertIs(self.lets(("grows", self.TABLE)), False)
        self.assertIs(self.lets(("closed",)), False)
        for thing in (*JUNK, (), 0, True, ("closed", None), ("closed", {}), ("closed", 5), (None, self.TABLE),
                      ([], self.TABLE), ("grows",), ("grows", [], None), ("grows", None, [0]), ({}, [], [])):
            self.assertIs(self.lets(thing), False)

    def test_grows(self):
        net, marking = SPLIT, (1, 0, 0)
        for stem, lap in (([], [0, 1, 2]), ([0], [1, 2, 0]), ([0, 1], [2, 0, 1]), ([0, 1, 2], [0, 1, 2]),
                          ([0, 1, 2, 0, 0], [1, 2, 0]), ([], [0, 1, 2, 0, 1, 2])):
            self.assertIs(self.lets(("grows", stem, lap), net, marking), True, (stem, lap))

    def test_grows_that_is_none(self):
        net, marking = SPLIT, (1, 0, 0)
        for stem, lap in (([], []), ([0], []), ([], [0]), ([], [0, 1]), ([], [1]), ([1], [0, 1, 2]), ([], [0, 1, 2, 2]),
                          ([], [0, 0]), ([], [0, 1, 3]), ([], [-1]), ([-3], [1, 2, 0]), ([0, 1, 2, 0], [0]),
                          ([], [0, 1, True]), ([False], [1, 2, 0]), ([], [False, 1, 2]), ([], [0, True, 2]),
                          ([None], [0, 1, 2]), ([], ["0", 1, 2]), ([[]], [0, 1, 2]), ([], [(0,), 1, 2]), ([], [10 ** 59])):
            self.assertIs(self.lets(("grows", stem, lap), net, marking), False, (stem, lap))
        for stem, lap in (((), [0, 1, 2]), ([], (0, 1, 2)), ("", [0, 1, 2]), ([], {}), (None, [0, 1, 2]), ([], range(3))):
            self.assertIs(self.lets(("grows", stem, lap), net, marking), False)
        self.assertIs(self.lets(["grows", [], [0, 1, 2]], net, marking), False)
        self.assertIs(self.lets(("grows", [], [0, 1, 2], []), net, marking), False)
        self.assertIs(self.lets(("closed", [], [0, 1, 2]), net, marking), False)

    def test_a_lap_behind_which_nothing_is_more(self):
        self.assertIs(self.lets(("grows", [], [0, 1, 2]), ROUND, (1, 0, 0)), False)
        self.assertIs(self.lets(("grows", [], [0]), LATE, (1, 1, 0)), False)
        self.assertIs(self.lets(("grows", [], [0, 1, 0]), LATE, (1, 1, 0)), True)
        self.assertIs(self.lets(("grows", [], [1, 2]), LATE, (1, 1, 0)), False)

    def test_what_is_handed_in_stays(self):
        table = list(self.TABLE)
        grown = ("grows", [0], [1, 2, 0])
        self.lets(("closed", table))
        self.lets(grown, SPLIT, (1, 0, 0))
        self.assertEqual((table, grown), (self.TABLE, ("grows", [0], [1, 2, 0])))

    def test_told_anew(self):
        told = holds(COUNTS, (3, 0))
        told[1].clear()
        self.assertEqual(holds(COUNTS, (3, 0)), ("closed", self.TABLE))
        told = holds(SPLIT, (1, 0, 0))
        told[1].append(5)
        told[2].append(5)
        self.assertEqual(holds(SPLIT, (1, 0, 0)), ("grows", [], [0, 1, 2]))


class Drawn(unittest.TestCase):
    def test_all_is_come_to_or_it_grows(self):
        words = []
        for seed in range(400):
            net, marking = draw_net(seed)
            try:
                told = holds(net, marking)
            except TooMany as caught:
                self.assertEqual(caught.many, 501)
                continue
            words.append(told[0])
            self.assertIs(lets_holds(net, marking, told), True, seed)
            if told[0] == "closed":
                self.assertEqual(told[1], sorted(come_to(net, marking)))
                self.assertIs(lets_holds(net, marking, ("closed", told[1][:-1])), False)
                self.assertIs(lets_holds(net, marking, ("closed", told[1][1:])), False)
            else:
                _, stem, lap = told
                ahead = gone_on(net, marking, stem)
                self.assertTrue(is_more(gone_on(net, ahead, lap), ahead))
                self.assertIsNone(come_to(net, marking, 60 + len(stem + lap)), seed)
        self.assertGreater(words.count("closed"), 100)
        self.assertGreater(words.count("grows"), 60)

    def test_never_both(self):
        """Whatever rows of rules are written, none is let by where a closed table is; and no table where it grows."""
        for seed in range(60):
            net, marking = draw_net(seed)
            try:
                told = holds(net, marking, most=60)
            except TooMany:
                continue
            rules = range(len(net[2]))
            if told[0] == "closed":
                for many in (1, 2, 3):
                    for row in itertools.product(rules, repeat=many):
                        for at in range(many):
                            self.assertIs(lets_holds(net, marking, ("grows", list(row[:at]), list(row[at:]))), False)
            else:
                met = [marking]
                for one in met[:30]:
                    met += [behind(net, one, number) for number in can(net, one)]
                self.assertIs(lets_holds(net, marking, ("closed", sorted(set(met)))), False)

    def test_counted_as_told(self):
        """Just so many as are come to ahead of its growing, that one too, are enough."""
        for seed in range(120):
            net, marking = draw_net(seed)
            counts = [most for most in range(1, 40) if self.is_enough(net, marking, most)]
            if counts:
                self.assertEqual(counts, list(range(counts[0], 40)))
                told = holds(net, marking, most=counts[0])
                self.assertEqual(told, holds(net, marking))
                if told[0] == "closed":
                    self.assertEqual(len(told[1]), counts[0])
                else:
                    self.assertEqual(self.many_till_it_grows(net, marking), counts[0])

    def is_enough(self, net, marking, most):
        try:
            holds(net, marking, most=most)
        except TooMany:
            return False
        return True

    def many_till_it_grows(self, net, marking):
        """Counted once more, with each marking's own way kept whole."""
        ways = [[marking]]
        for way in ways:
            for number in can(net, way[-1]):
                there = behind(net, way[-1], number)
                if there not in [other[-1] for other in ways]:
                    ways.append([*way, there])
                    if any(is_more(there, one) for one in way):
                        return len(ways)
        return None

    def test_beside_runs(self):
        """Each heap at which no body is under way is one of the markings."""
        looked = 0
        for seed in range(60):
            net, marking = draw_net(seed)
            letters = [lay(place, *[1] * carried) for (place, carried), many in zip(net[1], marking) for _ in range(many)]
            words = [place for place, _ in net[1]]
            program = ((net,), (*lot_at("m", "k", words), *letters))
            if len(program[1]) > 16:
                continue
            try:
                told = holds(net, marking)
            except TooMany:
                continue
            if told[0] == "grows":
                continue
            for stand in walked(Stand(program), seed, 40):
                places = [letter[1] for letter in stand.heap(0)] if stand.lots() else []
                heap = tuple(places.count(word) for word in words)
                if not stand.bodies():
                    self.assertIn(heap, told[1])
                    looked += 1
                for at, many in enumerate(heap):
                    self.assertLessEqual(many, max(one[at] for one in told[1]))
        self.assertGreater(looked, 60)


class Refused(unittest.TestCase):
    def test_no_net_goes_first(self):
        for thing in (*JUNK, BOX, kind("k", "a1", rule([head("a", 1)])), (), 0):
            for marking in ((0,), None):
                with self.assertRaises(NoNet):
                    holds(thing, marking, most=0)
                with self.assertRaises(NoNet):
                    lets_holds(thing, marking, None)

    def test_no_marking_goes_next(self):
        for thing in (*JUNK, (), (1,), (1, 1, 1), [1, 1], (1, -1), (1, True), (False, 1), (1, None), ("1", 1), "11", 1):
            for most in (500, 0, None):
                with self.assertRaises(NoMarking):
                    holds(COUNTS, thing, most=most)
            with self.assertRaises(NoMarking):
                lets_holds(COUNTS, thing, ("closed", []))

    def test_under_meet_error(self):
        for error in (NoNet, NoMarking, NoNumber):
            self.assertTrue(issubclass(error, MeetError))


if __name__ == "__main__":
    unittest.main()
