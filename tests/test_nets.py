"""Point 21: nets, markings, and the rules that can be done at them."""

import unittest

from waitedmeets.errors import NoMarking, NoNet, NoRule
from waitedmeets.nets import behind, can, is_net
from waitedmeets.stands import Stand

from samples import BOX, FULL, JUNK, OWN, Thing, all_gone, head, isw, kind, lay, lot_at, of, rule

NET = kind(
    "k", "a0 b1 c2 d0",
    rule(["a"], ("put", "b", (isw(1),)), ("put", "b", (OWN,)), ("put", "a", ())),
    rule([head("b", "v"), "a"], ("set", "x", of("v")), ("put", "c", (of("x"), of("v"))), ("note", of("x"))),
    rule([head("c", "v", "w"), head("b", "u"), "d", "a"]),
    rule(["d"], ("set", "x", OWN), ("set", "y", of("x")), ("note", of("y")), ("put", "d", ()), ("put", "d", ())),
)


def with_deeds(*deeds, heads=(head("b", "v"), "a")):
    return kind("k", "a0 b1 c2", rule(["a"]), rule(heads, *deeds))


class IsNet(unittest.TestCase):
    def test_nets(self):
        for net in (
            NET, kind("k", "a0"), kind("k", "a3", rule([head("a", "x", "y", "z")])), with_deeds(),
            with_deeds(("note", isw(1))), with_deeds(("note", OWN)), with_deeds(("put", "c", (OWN, of("v")))),
            with_deeds(("set", "v", of("v")), ("note", of("v"))),
            with_deeds(("set", "x", isw(True)), ("put", "b", (of("x"),))),
        ):
            self.assertIs(is_net(thing=net), True, net)

    def test_a_slot_that_asks_a_worth(self):
        for worth in (0, 1, True, False):
            self.assertIs(is_net(kind("k", "a0 b1", rule(["a"]), rule([head("b", worth)]))), False)
        self.assertIs(is_net(kind("k", "c2", rule([head("c", "v", 1)]))), False)
        self.assertIs(is_net(kind("k", "a0 c2", rule(["a", head("c", 1, "v")]))), False)

    def test_a_deed_of_another_word(self):
        for deed in (("let", "x", "plus", isw(1), isw(1)), ("make", "x", "k"), ("place", "x", OWN, "a"), ("lay", OWN, ()),
                     ("call", "x", OWN, ()), ("answer", "a", isw(1))):
            self.assertIs(is_net(with_deeds(deed)), False, deed)
            self.assertIs(is_net(with_deeds(("note", OWN), deed)), False, deed)
        self.assertIs(is_net(with_deeds(("when", isw(True), 1), ("note", OWN))), False)

    def test_a_name_that_has_no_worth(self):
        for deed in (("note", of("x")), ("set", "x", of("x")), ("put", "b", (of("x"),)), ("put", "c", (of("v"), of("x")))):
            self.assertIs(is_net(with_deeds(deed)), False, deed)

    def test_a_name_that_is_set_behind_alone(self):
        self.assertIs(is_net(with_deeds(("note", of("x")), ("set", "x", isw(1)))), False)
        self.assertIs(is_net(with_deeds(("set", "x", isw(1)), ("note", of("x")))), True)

    def test_a_name_of_another_rule(self):
        rules = (rule([head("b", "v")], ("set", "x", isw(1))), rule(["a"], ("note", of("v"))))
        self.assertIs(is_net(kind("k", "a0 b1", *rules)), False)
        self.assertIs(is_net(kind("k", "a0 b1", rules[0], rule(["a"], ("note", of("x"))))), False)

    def test_puts(self):
        for deed in (("put", "b", ()), ("put", "a", (isw(1),)), ("put", "c", (isw(1),)), ("put", "z", ()),
                     ("put", "b", (isw(1), isw(1))), ("put", "b", [isw(1)]), ("put", "b", (isw(None),))):
            self.assertIs(is_net(with_deeds(deed)), False, deed)

    def test_no_kinds(self):
        for thing in (*JUNK, 0, True, (), NET[:2], (*NET, ()), list(NET), ("K", *NET[1:]), ("k", (), ()),
                      ("k", (("a", 4),), ()), ("k", (("a", True),), ()), ("k", (("a", 0), ("a", 0)), ()),
                      ("k", (("a", 0),), [rule(["a"])]), ("k", (("a", 0),), (rule(["b"]),)), ((NET,), ()), FULL, "net",
                      ("k", (("a", 0),), (rule(["a"], None),)), ("k", (("a", 0),), (rule(["a"]),) * 9)):
            self.assertIs(is_net(thing), False)

    def test_other_kinds(self):
        self.assertIs(is_net(BOX), False)
        self.assertEqual([is_net(one) for one in FULL[0]], [False, True, False])


class Markings(unittest.TestCase):
    def test_can(self):
        for marking, rules in (
            ((0, 0, 0, 0), []), ((1, 0, 0, 0), [0]), ((0, 1, 0, 0), []), ((1, 1, 0, 0), [0, 1]), ((0, 0, 0, 1), [3]),
            ((1, 1, 1, 1), [0, 1, 2, 3]), ((2, 0, 5, 3), [0, 3]), ((0, 9, 9, 9), [3]), ((10 ** 30, 1, 0, 0), [0, 1]),
        ):
            self.assertEqual(can(NET, marking), rules)
        self.assertEqual(can(marking=(1,), net=kind("k", "a0")), [])

    def test_behind(self):
        for marking, number, there in (
            ((1, 0, 0, 0), 0, (1, 2, 0, 0)), ((1, 1, 0, 0), 1, (0, 0, 1, 0)), ((3, 2, 4, 5), 2, (2, 1, 3, 4)),
            ((0, 0, 0, 1), 3, (0, 0, 0, 2)), ((10 ** 30, 1, 0, 7), 1, (10 ** 30 - 1, 0, 1, 7)),
        ):
            got = behind(NET, marking, number)
            self.assertEqual(got, there)
            self.assertIs(type(got), tuple)
        self.assertEqual(behind(rule=0, marking=(2,), net=kind("k", "a0", rule(["a"]))), (1,))

    def test_told_anew(self):
        can(NET, (1, 0, 0, 0)).append(5)
        self.assertEqual(can(NET, (1, 0, 0, 0)), [0])

    def test_beside_a_stand(self):
        """The heap behind a rule's body has as many letters at each place as the marking behind it."""
        main = (*lot_at("m", "k", "abcd"), lay("a"), lay("b", 1), lay("c", 1, 2), lay("d"))
        stand = all_gone(Stand(((NET,), main)))
        for step in stand.steps():
            twin = stand.twin()
            twin.do(step)
            all_gone(twin)
            places = [letter[1] for letter in twin.heap(0)]
            self.assertEqual(tuple(places.count(place) for place in "abcd"), behind(NET, (1, 1, 1, 1), step[2]))
            self.assertEqual(twin.faults(), [])
        self.assertEqual([step[2] for step in stand.steps()], can(NET, (1, 1, 1, 1)))


class Refused(unittest.TestCase):
    def test_no_net(self):
        for thing in (*JUNK, BOX, kind("k", "a1", rule([head("a", 1)])), (), 0):
            for marking in ((0,), None):
                with self.assertRaises(NoNet):
                    can(thing, marking)
                with self.assertRaises(NoNet):
                    behind(thing, marking, None)

    def test_no_marking(self):
        for thing in (*JUNK, (), (1, 1, 1), (1, 1, 1, 1, 1), [1, 1, 1, 1], (1, 1, 1, -1), (1, 1, 1, True),
                      (False, 1, 1, 1), (1, 1, None, 1), (1, "1", 1, 1), ((1,), 1, 1, 1), ([], 1, 1, 1), 0, True, "1111",
                      (1, 1, 1, Thing())):
            with self.assertRaises(NoMarking):
                can(NET, thing)
            for number in (0, None):
                with self.assertRaises(NoMarking):
                    behind(NET, thing, number)

    def test_no_rule(self):
        for marking, things in (((1, 0, 0, 0), (1, 2, 3)), ((0, 0, 0, 0), (0, 1, 2, 3)), ((1, 1, 1, 1), (4, -1))):
            for thing in things:
                with self.assertRaises(NoRule) as caught:
                    behind(NET, marking, thing)
                self.assertEqual(caught.exception.thing, thing)
        for thing in (True, False, None, "0", (0,), [0], {}, 10 ** 30, Thing(), b"0"):
            with self.assertRaises(NoRule) as caught:
                behind(NET, (1, 1, 1, 1), thing)
            self.assertIs(caught.exception.thing, thing)


if __name__ == "__main__":
    unittest.main()
