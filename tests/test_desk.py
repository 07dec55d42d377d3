"""Point 29: a desk, and the rows that it is told."""

import unittest

from waitedmeets.desk import Desk
from waitedmeets.errors import MeetError, NoBody, NoDesk, NoLine, NoLot, NoText
from waitedmeets.made import locked, met
from waitedmeets.runner import Runner
from waitedmeets.texts import read_program, show_program, show_run

from drawn import draw_program, woven
from samples import BOX, BOXED, JUNK, OWN, isw, kind, lay, lot_at, of, of_spots, rule

ASKING = ("go 0", "run 3", "ready", "heap 0", "state 0", "notes", "faults", "steps")


def row_of(program):
    return "program " + show_program(program).replace("\n", "; ")


def desk_of(program, *rows):
    desk = Desk()
    desk.say(row_of(program))
    for row in rows:
        desk.say(row)
    return desk


class Rows(unittest.TestCase):
    def test_program(self):
        desk = Desk()
        self.assertEqual(desk.say(row=row_of(BOXED)), "ok")
        self.assertEqual(desk.say("program kind k; place a 0; main"), "ok")
        self.assertEqual(desk.say("program kind k; place a 0; rule a();   note *; main;   make x k"), "ok")

    def test_go(self):
        desk = desk_of(BOXED)
        for _ in range(5):
            self.assertEqual(desk.say("go 0"), "ok")
        self.assertEqual(desk.say("ready"), "1")
        self.assertEqual(desk.say("go 1"), "ok")
        self.assertEqual(desk.say("ready"), "0")

    def test_run(self):
        desk = desk_of(BOXED)
        self.assertEqual(desk.say("run 0"), "0")
        self.assertEqual(desk.say("steps"), "-")
        self.assertEqual(desk.say("run 2"), "2")
        self.assertEqual(desk.say("steps"), "go 0; go 0")
        self.assertEqual(desk.say("run 9999"), "5")
        self.assertEqual(desk.say("run 9999"), "0")
        self.assertEqual(desk.say("notes"), "7")

    def test_the_least_body_goes(self):
        program = ((kind("k", "a0", rule(["a"], ("note", isw(1)), ("note", isw(2)))),),
                   (*lot_at("m", "k", "a"), lay("a"), ("note", isw(5)), ("note", isw(6))))
        self.assertEqual(desk_of(program, "run 5").say("notes"), "5 6")
        self.assertEqual(desk_of(program, "run 3", "go 1").say("notes"), "1")

    def test_ready(self):
        desk = desk_of(met(3))
        self.assertEqual(desk.say("ready"), "0")
        desk.say("run 8")
        self.assertEqual(desk.say("ready"), "1 2 3")
        desk.say("run 9999")
        self.assertEqual(desk.say("ready"), "-")

    def test_heap(self):
        desk = desk_of(BOXED, "run 3")
        self.assertEqual(desk.say("heap 0"), "-")
        desk.say("go 0")
        self.assertEqual(desk.say("heap 0"), "0:put")
        program = ((kind("k", "a1 bcdefg0"),), (*lot_at("m", "k", "a"), ("place", "b", of("m"), "bcdefg"), lay("a", 3),
                                              lay("b"), lay("a", True)))
        self.assertEqual(desk_of(program, "run 99").say("heap 0"), "0:a 1:bcdefg 2:a")

    def test_state(self):
        desk = desk_of(BOXED, "run 3")
        self.assertEqual(desk.say("state 0"), "0")
        desk.say("go 0")
        self.assertEqual(desk.say("state 0"), "1")
        many = ((*of_spots(11)[0],), (("make", "m", "k"), ("make", "n", "l")))
        desk = desk_of(many, "run 2")
        self.assertEqual((desk.say("state 0"), desk.say("state 1")), ("-", "0"))

    def test_notes(self):
        self.assertEqual(desk_of(BOXED).say("notes"), "-")
        main = (*lot_at("m", "box", ("put",)), ("note", isw(0)), ("note", isw(-10 ** 9)), ("note", isw(True)),
                ("note", isw(False)), ("note", isw(1)), ("make", "n", "box"), ("note", of("n")), ("note", of("put")))
        self.assertEqual(desk_of(((BOX,), main), "run 99").say("notes"), "0 -1000000000 yes no 1 lot.1 place.0.put")

    def test_faults(self):
        program = ((kind("k", "a0", rule(["a"], ("lay", OWN, ()))),),
                   (*lot_at("m", "k", "a"), lay("a"), lay("a"), ("note", of("z"))))
        desk = desk_of(program)
        self.assertEqual(desk.say("faults"), "-")
        desk.say("run 99")
        self.assertEqual(desk.say("faults"), "0:unset 1:kind 2:kind")

    def test_steps(self):
        desk = desk_of(BOXED, "run 99")
        self.assertEqual(desk.say("steps"), "go 0; go 0; go 0; go 0; go 0; meet 0 0 0,1; go 1; go 0")

    def test_many_figures(self):
        for number, many in (("0", 0), ("1", 1), ("6", 6), ("7", 7), ("8", 7), ("10", 7), ("999", 7), ("1000", 7), ("9999", 7)):
            self.assertEqual(desk_of(BOXED).say(f"run {number}"), str(many))

    def test_beside_a_runner(self):
        for seed in range(60):
            program = draw_program(seed)
            desk = desk_of(program)
            for runner in woven(Runner(program), seed, 40):
                self.assertEqual(desk.say(f"go {runner.weaving()[-1]}"), "ok")
                self.assertEqual(desk.say("ready"), " ".join(map(str, runner.ready())) or "-")
                self.assertEqual(desk.say("steps"), show_run(runner.run()).replace("\n", "; "))
                for lot in range(len(runner.lots())):
                    self.assertEqual(desk.say(f"heap {lot}"),
                                     " ".join(f"{letter[0]}:{letter[1]}" for letter in runner.heap(lot)) or "-")
                    state = runner.state(lot)
                    self.assertEqual(desk.say(f"state {lot}"), "-" if state is None else str(state))
                self.assertEqual(desk.say("faults"), " ".join(f"{body}:{word}" for body, word in runner.faults()) or "-")
                self.assertEqual(len(desk.say("notes").split()), max(len(runner.notes()), 1))


class Refused(unittest.TestCase):
    def no_line(self, *rows):
        for row in rows:
            for desk in (Desk(), desk_of(BOXED, "run 4")):
                with self.assertRaises(NoLine, msg=repr(row)):
                    desk.say(row)

    def test_no_texts(self):
        self.no_line(*JUNK, 0, True, ("ready",), ["ready"], b"ready")

    def test_line_feeds(self):
        self.no_line("ready\n", "\nready", "go\n0", "go 0\n", "\n", "program kind k\nplace a 0\nmain", row_of(BOXED) + "\n")

    def test_no_rows(self):
        self.no_line("", " ", "-", "program", "Program x", "programs", " program x", "program\tx", "stop", "go", "go ", "go x",
                     "go 0 0", "go  0", "go 0 ", " go 0", "go\t0", "go -1", "go +0", "go 00", "go 01", "go 10000",
                     "go 00000", "go 12345", "go 1.", "go =0", "go yes", "go 1,2", "run", "run ", "run -1", "run 010",
                     "run 10000", "run all", "run 1 2", "ready 0", "ready ", " ready", "Ready", "heap", "heap ", "heap a",
                     "heap 0 0", "heap 00", "heap 99999", "state", "state -", "state 0 1", "state 01", "notes 0", "notes ",
                     "note", "faults 0", "fault", "steps 0", "steps ", "step", "meet 0 0 0", "twin", "heap -0", "go 1_0")

    def test_no_desk(self):
        desk = Desk()
        for row in (*ASKING, "heap 9999", "state 77", "go 5"):
            with self.assertRaises(NoDesk):
                desk.say(row)
        self.assertEqual(desk.say(row_of(BOXED)), "ok")
        self.assertTrue(issubclass(NoDesk, LookupError))
        self.assertFalse(issubclass(NoDesk, (KeyError, IndexError)))
        self.assertTrue(issubclass(NoLine, MeetError))

    def test_still_none_behind_a_text_that_is_none(self):
        desk = Desk()
        with self.assertRaises(NoText):
            desk.say("program kind k")
        with self.assertRaises(NoDesk):
            desk.say("ready")

    def test_no_body(self):
        desk = desk_of(BOXED)
        for number in (1, 7, 9999):
            with self.assertRaises(NoBody) as caught:
                desk.say(f"go {number}")
            self.assertEqual(repr(caught.exception.thing), repr(number))
        desk.say("run 5")
        # It waits for an answer.
        with self.assertRaises(NoBody):
            desk.say("go 0")
        self.assertEqual(desk.say("steps"), "go 0; go 0; go 0; go 0; go 0; meet 0 0 0,1")

    def test_no_lot(self):
        desk = desk_of(BOXED)
        for row in ("heap", "state"):
            for number in (0, 1, 9999):
                with self.assertRaises(NoLot) as caught:
                    desk.say(f"{row} {number}")
                self.assertEqual(repr(caught.exception.thing), repr(number))
        desk.say("run 1")
        self.assertEqual((desk.say("heap 0"), desk.say("state 0")), ("-", "0"))

    def test_texts_that_are_none(self):
        desk = desk_of(BOXED, "run 4")
        ahead = [desk.say(row) for row in ASKING[2:]]
        for text, number in (("", 0), (" ", 0), ("kind k", None), ("kind k;place a 0; main", 0), ("kind k; place a 0; main;", 2),
                             ("kind k; place a 0; main; ", 3), ("; kind k", 0), ("kind k;  place a 0; main", 1),
                             ("kind k; place a 0; main;  note =1", 3), ("kind k; place a 9; main", None),
                             ("kind k; place a 0; main;   note *", None), ("kind k; place a 0; main;   note x; \tx", 4)):
            with self.assertRaises(NoText, msg=text) as caught:
                desk.say("program " + text)
            self.assertEqual(repr(caught.exception.row), repr(number), text)
            self.assertEqual([desk.say(row) for row in ASKING[2:]], ahead)

    def test_what_is_refused_changes_nothing(self):
        desk = desk_of(BOXED, "run 3")
        ahead = [desk.say(row) for row in ASKING[2:]]
        for row in ("go 5", "heap 3", "state 3", "nothing", None, "go 00"):
            with self.assertRaises((NoBody, NoLot, NoLine)):
                desk.say(row)
        self.assertEqual([desk.say(row) for row in ASKING[2:]], ahead)


class Several(unittest.TestCase):
    def test_another_program_in_its_stead(self):
        desk = desk_of(BOXED, "run 99")
        self.assertEqual(desk.say(row_of(locked(2))), "ok")
        self.assertEqual([desk.say(row) for row in ("ready", "notes", "steps", "faults")], ["0", "-", "-", "-"])
        desk.say("run 9999")
        self.assertEqual(desk.say("notes"), "1 -1 2 -2")
        desk.say(row_of(locked(2)))
        self.assertEqual(desk.say("notes"), "-")

    def test_two_desks(self):
        one, other = desk_of(BOXED), desk_of(BOXED)
        one.say("run 99")
        self.assertEqual((one.say("notes"), other.say("notes"), other.say("steps")), ("7", "-", "-"))
        self.assertEqual(other.say("run 9999"), "7")
        with self.assertRaises(NoDesk):
            Desk().say("ready")

    def test_steps_are_read_back(self):
        desk = desk_of(locked(2), "run 9999")
        runner = Runner(read_program(show_program(locked(2))))
        while not runner.is_over():
            runner.go(runner.ready()[0])
        self.assertEqual(desk.say("steps").replace("; ", "\n"), show_run(runner.run()))


if __name__ == "__main__":
    unittest.main()
