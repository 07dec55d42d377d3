"""Points 13 to 15: sets of spots, machines of lots with the fewest states, rows that part them, and papers."""

import itertools
import unittest

from waitedmeets.errors import NoKind, NoProgram, NoSet, NoState, TooMany
from waitedmeets.lotmachines import (
    is_still, lets_machine, machine_of, paper_of, row_parting, rule_of, state_of, still_sets,
)
from waitedmeets.parting import parted_rules, spots_of

from drawn import draw_program
from samples import BOXED, JUNK, Thing, head, kind, of_spots, rule

JOIN = ((kind("k", "a0 b0", rule(["a", "b"])),), ())
JOINED = (
    (("stays", 1), ("stays", 2)),
    (("stays", 1), ("goes", 0)),
    (("goes", 0), ("stays", 2)),
)
THREE = ((kind("k", "a0 b0 c0", rule(["a", "b", "c"])),), ())
# c is in no rule; rule 1 is never the first that can.
IDLE = ((kind("k", "a0 b0 c0", rule(["a"]), rule(["a", "b"])),), ())
# By b or c it goes off by other rules, once a lies there; d alone goes off.
OTHERS = ((kind("k", "a0 b0 c0 d0", rule(["a", "b"]), rule(["a", "c"]), rule(["d"])),), ())
BY_WORTH = ((kind("k", "a1 b1", rule([head("a", 1), head("b", "v")]), rule([head("a", "v"), head("b", True)])),), ())
PROGRAMS = (JOIN, THREE, IDLE, OTHERS, BY_WORTH, ((kind("k", "a0 b2"),), ()), ((kind("k", "a0", rule(["a"])),), ()))


def drawn_kinds(most):
    """Drawn programs whose kind k has no more than so many spots."""
    return [program for program in map(draw_program, range(120))
            if len(program[0][0][1]) <= 4 and sum(1 for _ in spots_within(program)) <= most]


def spots_within(program):
    try:
        return spots_of(program, "k")
    except TooMany:
        return range(99)


def able(parted, spots):
    """The first rule that can, by point 12's words."""
    for number, row in enumerate(parted):
        if all(set(part) & set(spots) for part in row):
            return number
    return None


def going_off(parted, spots, row):
    """Where in a row of spots the first going off comes, and by which rule; None of none."""
    lying = set(spots)
    for at, spot in enumerate(row):
        if spot not in lying:
            lying.add(spot)
            if able(parted, lying) is not None:
                return (at, able(parted, lying))
    return None


def by_machine(machine, state, row):
    """The same by a machine, from a state of it."""
    for at, spot in enumerate(row):
        word, there = machine[state][spot]
        if word == "goes":
            return (at, there)
        state = there
    return None


def all_sets(many):
    return [row for size in range(many + 1) for row in itertools.combinations(range(many), size)]


class Sets(unittest.TestCase):
    def test_by_hand(self):
        self.assertEqual(still_sets(JOIN, "k"), [(), (0,), (1,)])
        self.assertEqual(still_sets(THREE, "k"), [(), (0,), (1,), (2,), (0, 1), (0, 2), (1, 2)])
        self.assertEqual(still_sets(IDLE, "k"), [(), (1,), (2,), (1, 2)])
        self.assertEqual(still_sets(OTHERS, "k"), [(), (0,), (1,), (2,), (1, 2)])
        self.assertEqual(still_sets(name="box", program=BOXED), [(), (0,), (1,)])

    def test_first_rule(self):
        for spots, number in (((), None), ((0,), None), ((0, 1), 0), ((0, 2), 1), ((0, 1, 2), 0), ((1, 2), None),
                              ((3,), 2), ((0, 3), 2), ((0, 2, 3), 1), ((1, 2, 3), 2), ((0, 1, 2, 3), 0)):
            self.assertEqual(rule_of(OTHERS, "k", spots), number)
            self.assertIs(is_still(OTHERS, "k", spots), number is None)
        self.assertEqual(rule_of(spots=(0, 1), name="k", program=JOIN), 0)
        self.assertIs(is_still(spots=(0,), name="k", program=JOIN), True)

    def test_drawn(self):
        for program in (*PROGRAMS, *drawn_kinds(10)):
            sets = all_sets(len(spots_of(program, "k")))
            parted = parted_rules(program, "k")
            for spots in sets[::7]:
                self.assertEqual(rule_of(program, "k", spots), able(parted, spots))
            self.assertEqual(still_sets(program, "k"), [spots for spots in sets if able(parted, spots) is None])

    def test_told_anew(self):
        still_sets(JOIN, "k").clear()
        self.assertEqual(len(still_sets(JOIN, "k")), 3)

    NO_SETS = (
        None, 0, True, "", "01", [], [0], [0, 1], {}, {0}, (1, 0), (0, 0), (2,), (0, 2), (-1,), (-1, 0), (True,), (False,),
        (0, True), (False, 1), ("0",), (None,), ((0,),), ([],), (0, 1, 2), (10 ** 30,), Thing(), (Thing(),), b"\x00",
    )

    def test_no_sets(self):
        for function in (rule_of, is_still, state_of):
            for thing in self.NO_SETS:
                with self.assertRaises(NoSet) as caught:
                    function(JOIN, "k", thing)
                self.assertIs(caught.exception.thing, thing)

    def test_no_state_of_a_set_that_is_not_still(self):
        for program, spots in ((JOIN, (0, 1)), (OTHERS, (3,)), (OTHERS, (0, 1, 2, 3)), (IDLE, (0, 2))):
            with self.assertRaises(NoSet) as caught:
                state_of(program, "k", spots)
            self.assertIs(caught.exception.thing, spots)


class Machines(unittest.TestCase):
    def test_join(self):
        self.assertEqual(machine_of(JOIN, "k"), JOINED)
        self.assertEqual(machine_of(name="box", program=BOXED), JOINED)

    def test_three(self):
        self.assertEqual(machine_of(THREE, "k"), (
            (("stays", 1), ("stays", 2), ("stays", 3)),
            (("stays", 1), ("stays", 4), ("stays", 5)),
            (("stays", 4), ("stays", 2), ("stays", 6)),
            (("stays", 5), ("stays", 6), ("stays", 3)),
            (("stays", 4), ("stays", 4), ("goes", 0)),
            (("stays", 5), ("goes", 0), ("stays", 5)),
            (("goes", 0), ("stays", 6), ("stays", 6)),
        ))
        self.assertEqual([state_of(THREE, "k", spots) for spots in still_sets(THREE, "k")], [0, 1, 2, 3, 4, 5, 6])

    def test_alike_sets_have_one_state(self):
        self.assertEqual(machine_of(IDLE, "k"), ((("goes", 0), ("stays", 0), ("stays", 0)),))
        self.assertEqual([state_of(IDLE, "k", spots) for spots in still_sets(IDLE, "k")], [0, 0, 0, 0])

    def test_other_rules(self):
        goes = ("goes", 2)
        self.assertEqual(machine_of(OTHERS, "k"), (
            (("stays", 1), ("stays", 2), ("stays", 3), goes),
            (("stays", 1), ("goes", 0), ("goes", 1), goes),
            # Once b lies there a goes off by rule 0, whether c does or not.
            (("goes", 0), ("stays", 2), ("stays", 2), goes),
            (("goes", 1), ("stays", 2), ("stays", 3), goes),
        ))
        self.assertEqual(state_of(OTHERS, "k", (1, 2)), state_of(OTHERS, "k", (1,)))

    def test_by_worth(self):
        # Spots: a of 1, a of others, b of True, b of others.
        self.assertEqual(machine_of(BY_WORTH, "k"), (
            (("stays", 1), ("stays", 2), ("stays", 3), ("stays", 4)),
            (("stays", 1), ("stays", 1), ("goes", 0), ("goes", 0)),
            (("stays", 1), ("stays", 2), ("goes", 1), ("stays", 5)),
            (("goes", 0), ("goes", 1), ("stays", 3), ("stays", 3)),
            (("goes", 0), ("stays", 5), ("stays", 3), ("stays", 4)),
            (("goes", 0), ("stays", 5), ("goes", 1), ("stays", 5)),
        ))

    def test_no_rules_and_one_head(self):
        self.assertEqual(machine_of(((kind("k", "a0 b2"),), ()), "k"), ((("stays", 0), ("stays", 0)),))
        self.assertEqual(machine_of(((kind("k", "a0", rule(["a"])),), ()), "k"), ((("goes", 0),),))

    def test_tuples_all_through(self):
        machine = machine_of(THREE, "k")
        self.assertIs(type(machine), tuple)
        for row in machine:
            self.assertIs(type(row), tuple)
            for entry in row:
                self.assertIs(type(entry), tuple)
                self.assertIs(type(entry[1]), int)

    def test_tells_the_same_as_the_sets(self):
        for program in (*PROGRAMS, *drawn_kinds(5)):
            many = len(spots_of(program, "k"))
            machine = machine_of(program, "k")
            parted = parted_rules(program, "k")
            for spots in still_sets(program, "k"):
                state = state_of(program, "k", spots)
                for row in itertools.product(range(many), repeat=min(many, 4)):
                    self.assertEqual(by_machine(machine, state, row), going_off(parted, spots, row))

    def test_fewest_and_numbered_as_they_are_come_to(self):
        for program in (*PROGRAMS, *drawn_kinds(10)):
            machine = machine_of(program, "k")
            met = [0]
            for state in met:
                met.extend(there for word, there in dict.fromkeys(machine[state])
                           if word == "stays" and there not in met)
            self.assertEqual(list(dict.fromkeys(met)), list(range(len(machine))))
            for one, other in itertools.combinations(range(min(len(machine), 12)), 2):
                row = row_parting(program, "k", one, other)
                self.assertNotEqual(by_machine(machine, one, row), by_machine(machine, other, row))

    def test_ten_spots(self):
        machine = machine_of(of_spots(10), "k")
        self.assertEqual(len(machine[0]), 10)
        slots = [head("a", 1), head("b", 1), head("c", 1), head("d", 1)]
        program = ((kind("k", "a1 b1 c1 d1 e0 f0", rule(slots), rule([*slots[:2], "e", "f"]), rule([slots[2], "f"])),), ())
        self.assertEqual(len(spots_of(program, "k")), 10)
        self.assertIs(lets_machine(program, "k", machine_of(program, "k"), paper_of(program, "k")), True)


class Rows(unittest.TestCase):
    def test_by_hand(self):
        self.assertEqual(row_parting(JOIN, "k", 0, 1), (1,))
        self.assertEqual(row_parting(JOIN, "k", 2, 0), (0,))
        self.assertEqual(row_parting(JOIN, "k", 1, 2), (0,))
        self.assertEqual(row_parting(THREE, "k", 0, 1), (1, 2))
        self.assertEqual(row_parting(THREE, "k", 1, 0), (1, 2))
        self.assertEqual(row_parting(THREE, "k", 0, 2), (0, 2))
        self.assertEqual(row_parting(THREE, "k", 0, 4), (2,))
        self.assertEqual(row_parting(THREE, "k", 3, 1), (0, 1))
        # By another rule, both going off.
        self.assertEqual(row_parting(OTHERS, "k", 2, 3), (0,))
        self.assertEqual(row_parting(other=1, one=0, name="k", program=OTHERS), (1,))

    def test_past_letters_by_which_both_go_off_alike(self):
        # Rule 7 goes off by a, in whatever state; there is no state 7.
        program = ((kind("k", "a0 b0 c0 d0", *[rule(["b", "c", "d"])] * 7, rule(["a"])),), ())
        self.assertEqual(len(machine_of(program, "k")), 7)
        self.assertEqual(row_parting(program, "k", 0, 1), (2, 3))

    def test_of_one_and_the_same(self):
        for state in range(7):
            self.assertIsNone(row_parting(THREE, "k", state, state))

    def test_the_shortest_and_of_these_the_first(self):
        for program in (*PROGRAMS, *drawn_kinds(5)):
            many = len(spots_of(program, "k"))
            machine = machine_of(program, "k")
            for one, other in itertools.product(range(min(len(machine), 9)), repeat=2):
                if one != other:
                    told = row_parting(program, "k", one, other)
                    rows = (row for size in range(1, len(told) + 1) for row in itertools.product(range(many), repeat=size))
                    first = next(row for row in rows if by_machine(machine, one, row) != by_machine(machine, other, row))
                    self.assertEqual(told, first)

    def test_no_states(self):
        for thing in (3, -1, True, False, None, "0", (0,), [0], {}, 10 ** 30, Thing(), b"0"):
            for one, other in ((thing, 0), (0, thing), (thing, thing), (thing, 99)):
                with self.assertRaises(NoState) as caught:
                    row_parting(JOIN, "k", one, other)
                self.assertIs(caught.exception.thing, thing)


class Papers(unittest.TestCase):
    def test_made(self):
        self.assertEqual(paper_of(JOIN, "k"), [((), 0), ((0,), 1), ((1,), 2)])
        self.assertEqual(paper_of(IDLE, "k"), [((), 0), ((1,), 0), ((2,), 0), ((1, 2), 0)])
        self.assertEqual(paper_of(name="k", program=OTHERS), [((), 0), ((0,), 1), ((1,), 2), ((2,), 3), ((1, 2), 2)])

    def test_made_ones_are_let_by(self):
        for program in (*PROGRAMS, *drawn_kinds(10)):
            paper = paper_of(program, "k")
            self.assertIs(type(paper), list)
            self.assertEqual([spots for spots, _ in paper], still_sets(program, "k"))
            for spots, state in paper[::9]:
                self.assertEqual(state_of(program, "k", spots), state)
            self.assertIs(lets_machine(program, "k", machine_of(program, "k"), paper), True)

    def test_told_anew(self):
        paper_of(JOIN, "k").clear()
        self.assertEqual(len(paper_of(JOIN, "k")), 3)

    def test_left_as_handed_in(self):
        paper = paper_of(JOIN, "k")
        lets_machine(paper=paper, machine=JOINED, name="k", program=JOIN)
        self.assertEqual(paper, paper_of(JOIN, "k"))


def by_sets(program):
    """A machine with a state for each still set, and its paper."""
    sets = still_sets(program, "k")
    many = len(spots_of(program, "k"))
    parted = parted_rules(program, "k")
    rows = []
    for spots in sets:
        row = []
        for spot in range(many):
            grown = tuple(sorted({*spots, spot}))
            number = able(parted, grown)
            row.append(("stays", sets.index(grown)) if number is None else ("goes", number))
        rows.append(tuple(row))
    return tuple(rows), [(spots, number) for number, spots in enumerate(sets)]


def renumbered(machine, paper, order):
    """The same machine with its state order[k] as state k."""
    place = {state: at for at, state in enumerate(order)}
    rows = [tuple((word, place[there] if word == "stays" else there) for word, there in machine[state]) for state in order]
    return tuple(rows), [(spots, place[state]) for spots, state in paper]


class OtherHands(unittest.TestCase):
    def test_a_state_for_each_set(self):
        for program in (*PROGRAMS, *drawn_kinds(6)):
            machine, paper = by_sets(program)
            self.assertIs(lets_machine(program, "k", machine, paper), True)
            self.assertGreaterEqual(len(machine), len(machine_of(program, "k")))

    def test_numbered_otherwise(self):
        machine, paper = by_sets(OTHERS)
        for order in itertools.permutations(range(5)):
            told = lets_machine(OTHERS, "k", *renumbered(machine, paper, order))
            self.assertIs(told, order[0] == 0)

    def test_with_states_that_no_set_has(self):
        paper = paper_of(JOIN, "k")
        for row in ((("stays", 0), ("stays", 3)), (("goes", 0), ("goes", 0))):
            self.assertIs(lets_machine(JOIN, "k", (*JOINED, row), paper), True)

    def test_such_states_are_rows_too(self):
        paper = paper_of(JOIN, "k")
        for row in ((), (("stays", 0),), (("stays", 0), ("stays", 4)), (("stays", 0), ("goes", 1)), None,
                    (("stays", 0), ("stays", True)), [("stays", 0), ("stays", 3)], (("stays", 0), ["stays", 3]),
                    (("stays", 0), ("stays", 3), ("stays", 0)), (("stays", 0), ("goes", None)),
                    (("stays", 0), ("goes", -1)), (("stays", 0), ("stays", -1)), (("stays", 0), ("Stays", 0)),
                    (("stays", 0), ("stays", 0, 0)), (("stays", 0), ("goes", False))):
            self.assertIs(lets_machine(JOIN, "k", (*JOINED, row), paper), False, row)


class Bent(unittest.TestCase):
    def test_each_entry(self):
        for program in (JOIN, OTHERS, BY_WORTH):
            for machine, paper in ((machine_of(program, "k"), paper_of(program, "k")), by_sets(program)):
                rules = len(parted_rules(program, "k"))
                entries = [("stays", state) for state in range(-1, len(machine) + 1)]
                entries += [("goes", number) for number in range(-1, rules + 1)]
                entries += [("stays", True), ("goes", False), ("stays",), (), None, ["stays", 0], ("stays", None), 0, Thing()]
                for at, row in enumerate(machine):
                    for spot, right in enumerate(row):
                        for entry in entries:
                            bent = (*machine[:at], (*row[:spot], entry, *row[spot + 1:]), *machine[at + 1:])
                            self.assertIs(lets_machine(program, "k", bent, paper), repr(entry) == repr(right))

    def test_machines_of_another_form(self):
        paper = paper_of(JOIN, "k")
        for thing in (*JUNK, (), [], list(JOINED), JOINED[:2], JOINED[0], (JOINED,), [list(row) for row in JOINED],
                      tuple(list(row) for row in JOINED), tuple(row[:1] for row in JOINED), 0, True):
            self.assertIs(lets_machine(JOIN, "k", thing, paper), False)

    def test_papers(self):
        right = [((), 0), ((0,), 1), ((1,), 2)]
        self.assertIs(lets_machine(JOIN, "k", JOINED, right), True)
        for thing in (
            *JUNK, 0, True, tuple(right), right[:2], right[1:], [*right, ((0, 1), 0)], [*right, right[0]], right[::-1],
            [right[0], right[2], right[1]], [right[0], right[0], right[1]], [((), 1), *right[1:]], [((), False), *right[1:]],
            [((), None), *right[1:]], [right[0], ((0,), 2), right[2]], [right[0], ((0,), True), right[2]],
            [right[0], ((0,), 3), right[2]], [right[0], ((0,), -1), right[2]], [right[0], ((False,), 1), right[2]],
            [right[0], right[1], ((True,), 2)], [right[0], ([0], 1), right[2]], [right[0], [(0,), 1], right[2]],
            [right[0], ((0,),), right[2]], [right[0], ((0,), 1, 1), right[2]], [right[0], (0, 1), right[2]],
            [right[0], None, right[2]], [([], 0), *right[1:]], [(None, 0), *right[1:]], [right[0], (("0",), 1), right[2]],
            [right[0], ((0, 0), 1), right[2]], [right[0], ((Thing(),), 1), right[2]], {(): 0, (0,): 1, (1,): 2},
        ):
            self.assertIs(lets_machine(JOIN, "k", JOINED, thing), False, thing)

    def test_both_of_anything(self):
        for machine in (*JUNK, 0, JOINED):
            for paper in JUNK:
                self.assertIs(lets_machine(JOIN, "k", machine, paper), False)

    def test_the_empty_sets_state(self):
        machine, paper = renumbered(JOINED, paper_of(JOIN, "k"), (1, 0, 2))
        self.assertIs(lets_machine(JOIN, "k", machine, paper), False)

    def test_another_kinds(self):
        paper = paper_of(THREE, "k")
        self.assertIs(lets_machine(JOIN, "k", machine_of(THREE, "k"), paper), False)


class Refused(unittest.TestCase):
    ASKED = {
        "rule_of": lambda *kind_: rule_of(*kind_, None), "is_still": lambda *kind_: is_still(*kind_, None),
        "still_sets": still_sets, "machine_of": machine_of, "state_of": lambda *kind_: state_of(*kind_, None),
        "row_parting": lambda *kind_: row_parting(*kind_, None, None), "paper_of": paper_of,
        "lets_machine": lambda *kind_: lets_machine(*kind_, None, None),
    }

    def test_eleven_spots(self):
        for name, asked in self.ASKED.items():
            for many in (11, 24, 25, 30):
                with self.assertRaises(TooMany, msg=name) as caught:
                    asked(of_spots(many), "k")
                self.assertEqual(caught.exception.many, many)

    def test_ten_spots(self):
        program = of_spots(10)
        self.assertEqual(len(spots_of(program, "k")), 10)
        self.assertIsNone(rule_of(program, "k", ()))
        self.assertIs(is_still(program, "k", ()), True)
        self.assertEqual(state_of(program, "k", ()), 0)
        self.assertIsNone(row_parting(program, "k", 0, 0))
        self.assertIs(lets_machine(program, "k", machine_of(program, "k"), paper_of(program, "k")), True)
        self.assertIs(lets_machine(program, "k", None, None), False)

    def test_no_kind(self):
        for name, asked in self.ASKED.items():
            for thing in ("box", "a", "", None, 0, True, [], {}, ("k",), Thing(), JOIN[0][0]):
                with self.assertRaises(NoKind, msg=name) as caught:
                    asked(JOIN, thing)
                self.assertIs(caught.exception.thing, thing)

    def test_no_program_goes_first(self):
        for name, asked in self.ASKED.items():
            for thing in JUNK:
                with self.assertRaises(NoProgram, msg=name):
                    asked(thing, None)


if __name__ == "__main__":
    unittest.main()
