"""Point 28: programs and runs as texts, and texts read back."""

import unittest

from waitedmeets.errors import MeetError, NoProgram, NoText
from waitedmeets.made import locked, met, reading, shelved
from waitedmeets.runner import Runner
from waitedmeets.stands import Stand
from waitedmeets.texts import read_program, read_run, show_program, show_run

from drawn import draw_program, walked, woven
from samples import BOXED, FULL, JUNK, OWN, isw, kind, with_deeds, with_heads, with_main, with_rules

FULL_TEXT = """kind shop
place ask 2
place hold 0
place none 0
place full 3
rule ask(who,=7) hold()
  set x who
  let y plus x =-3
  note *
  make n desk
  place p n row
  when =yes 2
  lay p (*)
  put full (=1,x,*)
  call z p (y)
  answer ask z
  put hold ()
rule none()
kind idle
place any 1
kind desk
place row 1
rule row(=no)
  answer row =no
  note =1000000000
rule row(row)
  set row row
main
  make s shop
  place a s ask
  let t same a =0
  when t 1
  lay a (=1,=7)
  call b a ()
  note b
  set c =-1000000000"""

BOX_TEXT = """kind box
place put 1
place get 0
rule put(v) get()
  answer get v
main
  make b box
  place put b put
  place get b get
  lay put (=7)
  call x get ()
  note x"""

LEAST_TEXT = "kind k\nplace a 0\nmain"


def with_row(number, row):
    """FULL's text with another row in the stead of one."""
    rows = FULL_TEXT.split("\n")
    return "\n".join([*rows[:number], row, *rows[number + 1:]])


class Shown(unittest.TestCase):
    def test_by_hand(self):
        self.assertEqual(show_program(FULL), FULL_TEXT)
        self.assertEqual(show_program(program=BOXED), BOX_TEXT)
        self.assertEqual(show_program(((kind("k", "a0"),), ())), LEAST_TEXT)

    def test_each_operand_and_slot(self):
        for operand, word in ((("of", "v"), "v"), (("own",), "*"), (isw(True), "=yes"), (isw(False), "=no"), (isw(0), "=0"),
                              (isw(1), "=1"), (isw(-1), "=-1"), (isw(10 ** 9), "=1000000000"), (("of", "yes"), "yes")):
            self.assertIn(f"\n  note {word}\n", show_program(with_deeds(("note", operand))))
            self.assertIn(f"\n  lay {word} (=1,{word},*)\n", show_program(with_deeds(("lay", operand, (isw(1), operand, OWN)))))
        program = with_heads(("a", ()), ("d", (("as", "x"), isw(-5), isw(False))), ("b", (isw(True),)))
        self.assertIn("\nrule a() d(x,=-5,=no) b(=yes)\nmain", show_program(program))

    def test_without_deeds(self):
        self.assertEqual(show_program(with_rules(((("e", ()),), ()), places=(("e", 0),))),
                         "kind k\nplace e 0\nrule e()\nmain")

    def test_no_program(self):
        for thing in (*JUNK, (), list(FULL), FULL_TEXT):
            with self.assertRaises(NoProgram) as caught:
                show_program(thing)
            error = caught.exception
            self.assertEqual((error.kind, error.rule, error.deed), (None, None, None))
        with self.assertRaises(NoProgram) as caught:
            show_program(with_deeds(("note", isw(1)), ("note",)))
        error = caught.exception
        self.assertEqual((error.kind, error.rule, error.deed), (0, 0, 1))

    def test_runs(self):
        self.assertEqual(show_run([]), "")
        self.assertEqual(show_run([("go", 0)]), "go 0")
        self.assertEqual(show_run(run=[("go", 12), ("meet", 0, 3, (5,)), ("meet", 10, 0, (7, 0, 12, 3)), ("go", 0)]),
                         "go 12\nmeet 0 3 5\nmeet 10 0 7,0,12,3\ngo 0")


class ReadBack(unittest.TestCase):
    def same(self, program):
        text = show_program(program)
        self.assertEqual(repr(read_program(text)), repr(program))
        self.assertFalse(text.endswith("\n"))

    def test_by_hand(self):
        self.assertEqual(repr(read_program(FULL_TEXT)), repr(FULL))
        self.assertEqual(repr(read_program(text=BOX_TEXT)), repr(BOXED))
        self.assertEqual(read_program(LEAST_TEXT), ((kind("k", "a0"),), ()))

    def test_drawn(self):
        for seed in range(200):
            self.same(draw_program(seed))

    def test_made(self):
        for program in (locked(1), locked(2), shelved([10 ** 9, 0, -10 ** 9]), met(3), reading(2)):
            self.same(program)

    def test_each_deed(self):
        for deed in (("set", "x", OWN), ("let", "x", "plus", isw(0), isw(-1)), ("let", "x", "minus", isw(True), OWN),
                     ("let", "x", "times", isw(1), isw(1)), ("let", "x", "below", isw(1), isw(1)),
                     ("let", "same", "same", isw(False), isw(0)), ("note", isw(1)), ("make", "k", "k"),
                     ("place", "place", ("of", "place"), "place"), ("lay", OWN, ()), ("put", "a", ()),
                     ("put", "d", (isw(True), isw(1), OWN)), ("call", "x", ("of", "v"), (OWN, OWN, isw(10 ** 9))),
                     ("answer", "b", ("of", "no"))):
            self.same(with_deeds(deed))
        self.same(with_deeds(("when", isw(1), 2), ("note", OWN), ("note", OWN)))
        self.same(with_main(("when", isw(True), 1), ("note", isw(False))))

    def test_names_that_are_words_of_texts(self):
        self.same(((("kind", (("main", 0), ("rule", 1), ("yes", 2)), (((("rule", (("as", "no"),)),), (("set", "set", ("of", "no")),
                                                                                                     )),)),),
                   (("make", "main", "kind"),)))

    def test_truths_apart_from_numbers(self):
        text = LEAST_TEXT + "\n  note =1\n  note =yes\n  note =0\n  note =no"
        self.assertEqual(repr(read_program(text)[1]),
                         repr((("note", isw(1)), ("note", isw(True)), ("note", isw(0)), ("note", isw(False)))))

    def test_carried(self):
        for many in range(4):
            self.same(((kind("k", f"a{many}"),), ()))

    def test_runs(self):
        for seed in range(60):
            program = draw_program(seed)
            stand, runner = Stand(program), Runner(program)
            for _ in walked(stand, seed, 30):
                pass
            for _ in woven(runner, seed, 30):
                pass
            for run in (stand.done(), runner.run()):
                self.assertEqual(repr(read_run(show_run(run))), repr(run))

    def test_runs_by_hand(self):
        self.assertEqual(read_run(""), [])
        self.assertEqual(read_run(text="go 0"), [("go", 0)])
        great = "1" + "0" * 59
        self.assertEqual(read_run(f"meet 0 0 0\nmeet 3 4 5,6,7,8\ngo {great}\nmeet 0 0 0,0,0,0,0,0"),
                         [("meet", 0, 0, (0,)), ("meet", 3, 4, (5, 6, 7, 8)), ("go", 10 ** 59), ("meet", 0, 0, (0,) * 6)])

    def test_told_anew(self):
        read_run("go 0").append(1)
        self.assertEqual(read_run("go 0"), [("go", 0)])

    def test_what_is_handed_in_stays(self):
        run = [("go", 0), ("meet", 0, 0, (1,))]
        show_run(run)
        self.assertEqual(run, [("go", 0), ("meet", 0, 0, (1,))])


class RowsOfPrograms(unittest.TestCase):
    def refused(self, text, row):
        with self.assertRaises(NoText, msg=repr(text)[-200:]) as caught:
            read_program(text)
        self.assertEqual(repr(caught.exception.row), repr(row), repr(text)[-200:])

    def wrong(self, *rows):
        """Each of these rows is none by its form, wherever it stands."""
        many = FULL_TEXT.count("\n")
        for row in rows:
            for number in (0, 1, 5, 6, many):
                self.refused(with_row(number, row), number)
            self.refused(row, 0)
            self.refused(LEAST_TEXT + "\n" + row, 3)

    def good(self, *rows):
        """Each of these rows is one by its form, though no program is made where it stands."""
        for row in rows:
            self.refused(row, None)
            self.refused(LEAST_TEXT + "\n" + row + "\nkind z", None)

    def test_no_texts(self):
        for thing in (*[junk for junk in JUNK if not isinstance(junk, str)], 0, True, ("kind k",), ["kind k"], b"kind k"):
            self.refused(thing, 0)

    def test_the_text_without_signs(self):
        self.refused("", 0)

    def test_empty_rows(self):
        self.wrong("", " ", "  ", "   ")
        self.refused(FULL_TEXT + "\n", FULL_TEXT.count("\n") + 1)
        self.refused(LEAST_TEXT + "\n", 3)
        self.refused("\n" + LEAST_TEXT, 0)
        self.refused("kind k\n\nplace a 0\nmain", 1)
        self.refused("\n", 0)
        self.refused(LEAST_TEXT + "\n\n", 3)

    def test_blanks_and_tabs(self):
        self.wrong("kind  k", "kind k ", " kind k", "kind\tk", "place a  0", "place a 0 ", "main ", " main", "rule  a()",
                   "rule a() ", "rule a()  b()", " note x", "   note x", "  note  x", "  note x ", "\tnote x", "  note\tx",
                   "  lay x (a, b)", "  lay x ( a)", "rule a(x, y)", "rule a (x)", "kind k\r", "  note x\t", "\t")

    def test_kinds(self):
        self.wrong("kind", "kind ", "kind K", "kind letters", "kind k1", "kind k l", "Kind k", "kinds k", "kind =1", "kind *",
                   "kind k()", "k", "kind -")
        self.good("kind k", "kind zzzzzz", "kind kind")

    def test_places(self):
        self.wrong("place a", "place", "place a 0 0", "place A 0", "place a x", "place a -1", "place a +1", "place a 00",
                   "place a 01", "place a =1", "place a yes", "place letters 0", "place 0 a", "place a 1.0", "place a() 0",
                   "place a " + "1" * 61, "place a ,", "place a 1_0", "place a -0")
        self.good("place a 0", "place a 3", "place a 4", "place a " + "9" * 60)

    def test_rules(self):
        self.wrong("rule", "foo a()", "Rule a()", "main a()", "a()", "rule a", "rule a(", "rule a)", "rule (a)", "rule ()", "rule a(x", "rule ax)", "rule a(x))",
                   "rule a((x)", "rule a(x)b", "rule a(,)", "rule a(x,)", "rule a(,x)", "rule A()", "rule a(X)", "rule a(*)",
                   "rule a(=)", "rule a(==1)", "rule a(=x)", "rule a(=01)", "rule a(=-0)", "rule a(=+1)", "rule a(=-)",
                   "rule a(=Yes)", "rule a(=1.5)", "rule a() b", "rule a(x y)", "rule letters()", "rule a(letters)",
                   "rule a(=" + "1" * 61 + ")", "rule a(=-" + "1" * 61 + ")", "rule a(5)", "rule a()()", "rule a(x),b(y)")
        self.good("rule a()", "rule a() a()", "rule a(x,x,x,x,x)", "rule z(=" + "1" * 60 + ")", "rule z(=-" + "1" * 60 + ")",
                  "rule a() b() c() d() e() f()", "rule a(=yes,=no,=0,=-1)")

    def test_main(self):
        self.wrong("main k", "Main", "main()", "mains", "main 0")
        self.good("main")

    def test_deeds_words(self):
        self.wrong("  go 0", "  Set x y", "  do x", "  kind k", "  rule a()", "  main", "set x y", "note x", "  =1", "  *",
                   "  plus x y z", "  set(x) y")

    def test_how_many_words_a_deed_has(self):
        for words in ("set x y", "let x plus y z", "note x", "make x k", "place x y z", "lay x ()", "put a ()",
                      "call x y ()", "answer a x", "when x 1"):
            self.good("  " + words)
            self.wrong("  " + words + " x", "  " + words + " ()", "  " + words.rpartition(" ")[0])

    def test_parts_of_deeds(self):
        self.wrong("  set =1 x", "  set * x", "  set x ()", "  set X x", "  set x letters", "  let x more y z",
                   "  let x set y z", "  let x = y z", "  let x plus y ()", "  note (x)", "  note =", "  note =-0",
                   "  note =00", "  note =yess", "  note yes!", "  note 1", "  note -1", "  note **", "  note =*",
                   "  make x =1", "  make x *", "  place x y =1", "  place x y *", "  lay x y", "  lay x (", "  lay x )",
                   "  lay x (y", "  lay x y)", "  lay x (yz", "  lay x yz)", "  lay x xyz", "  lay x ",
                   "  put a ", "  lay x [y]", "  lay x (y,)", "  lay x (,)", "  lay x (())", "  lay () ()", "  lay x ()()",
                   "  put * ()", "  put =1 ()", "  put a x", "  call * x ()", "  call x y z", "  answer * x", "  answer =1 x",
                   "  answer a ()", "  when x y", "  when x =1", "  when x -1", "  when x 01", "  when x " + "1" * 61,
                   "  when 1 1", "  note =" + "1" * 61, "  note =-" + "1" * 61, "  lay x (y;z)", "  note =1e3")
        self.good("  note =" + "1" * 60, "  note =-" + "9" * 60, "  when x 0", "  when x 99", "  when * " + "1" * 60,
                  "  lay x (a,b,c,d,e,f)", "  put nosuch (=1,*)", "  make x nosuch", "  answer nosuch *", "  note *",
                  "  lay * (=yes)", "  lay =1 ()", "  let x same =no =-5", "  set yes no", "  note no")

    def test_the_first_of_several(self):
        rows = FULL_TEXT.split("\n")
        self.refused("\n".join([*rows[:3], "x", rows[4], "y", *rows[6:]]), 3)
        # Rows that stand at a wrong place, ahead of one that is none by its form.
        self.refused("main\nmain\n  note x\nkind k\nfoul", 4)
        self.refused("  note x\nplace a 9\n", 2)

    def test_foul_rows_ahead_of_what_makes_no_program(self):
        self.refused("kind k\nplace a 7\nmain\n  note x ", 3)


class NoPrograms(unittest.TestCase):
    def none(self, text):
        with self.assertRaises(NoText, msg=text) as caught:
            read_program(text)
        self.assertIsNone(caught.exception.row, text)

    def test_where_rows_stand(self):
        for rows in (
            ["main"], ["kind k", "place a 0"], ["kind k", "main"], ["place a 0", "main"], ["kind k", "place a 0", "main", "main"],
            ["main", "kind k", "place a 0"], ["kind k", "place a 0", "main", "kind l", "place a 0"],
            ["kind k", "place a 0", "main", "place b 0"], ["kind k", "place a 0", "main", "rule a()"],
            ["kind k", "  note =1", "place a 0", "main"], ["kind k", "place a 0", "  note =1", "main"],
            ["  note =1", "kind k", "place a 0", "main"], ["kind k", "place a 0", "rule a()", "place b 0", "main"],
            ["kind k", "rule a()", "place a 0", "main"], ["rule a()", "kind k", "place a 0", "main"],
            ["place b 0", "kind k", "place a 0", "main"], ["kind k", "place a 0", "rule a()", "kind l", "  note =1",
                                                          "place a 0", "main"],
        ):
            self.none("\n".join(rows))

    def test_what_five_asks(self):
        head_rows = ["kind k", "place a 0", "place b 1"]
        for rows in (
            ["place a 1", "main"], ["place c 4", "main"], ["rule c()", "main"], ["rule a(x)", "main"], ["rule b()", "main"],
            ["rule a() a()", "main"], ["rule b(x,y)", "main"], ["rule b(=1000000001)", "main"],
            ["rule a() b(x)", "  answer c x", "main"], ["rule a()", "  put b ()", "main"], ["rule a()", "  put c ()", "main"],
            ["rule a()", "  make x l", "main"], ["rule a()", "  when x 1", "main"], ["rule a()", "  when x 0", "  note x", "main"],
            ["main", "  note *"], ["main", "  put a ()"], ["main", "  answer a x"], ["main", "  when x 1"],
            ["main", "  note =1000000001"], ["main", "  note =-1000000001"], ["main", "  lay x (a,a,a,a)"],
            ["main", "  lay x (*)"], ["main", *["  note x"] * 17], ["rule a()", *["  note x"] * 13, "main"],
            [*["rule a()"] * 9, "main"], ["kind k", "place a 0", "main"], ["place c 0"] * 2 + ["main"],
            ["place c 0", "place d 0", "place e 0", "place f 0", "place g 0", "main"],
            ["rule b(x) a()", "  lay x (x,x,x,x)", "main"],
        ):
            self.none("\n".join([*head_rows, *rows]))
        self.none("\n".join([f"kind {name}\nplace a 0" for name in "abcdefg"] + ["main"]))
        self.none("kind k\n" + "\n".join(f"place {name} 0" for name in "abcde") + "\nrule a() b() c() d() e()\nmain")

    def test_two_names_in_heads_alike(self):
        self.none("kind k\nplace a 1\nplace b 1\nrule a(x) b(x)\nmain")
        self.none("kind k\nplace a 2\nrule a(x,x)\nmain")
        read_program("kind k\nplace a 2\nrule a(x,y)\nmain")

    def test_under_meet_error(self):
        self.assertTrue(issubclass(NoText, MeetError))


class RowsOfRuns(unittest.TestCase):
    GOOD = "go 0\nmeet 0 0 1,2\ngo 3"

    def refused(self, text, row):
        with self.assertRaises(NoText, msg=repr(text)) as caught:
            read_run(text)
        self.assertEqual(repr(caught.exception.row), repr(row), repr(text))

    def test_no_texts(self):
        for thing in (*[junk for junk in JUNK if not isinstance(junk, str)], 0, True, ("go 0",), ["go 0"], b"go 0"):
            self.refused(thing, 0)

    def test_wrong_rows(self):
        great = "1" * 61
        for row in ("go", "go ", "go x", "go -1", "go +1", "go 01", "go 00", "go 0 0", " go 0", "go 0 ", "go  0", "go\t0",
                    "Go 0", "come 0", "move 0 1", "meet", "meet 0", "meet 0 0", "meet 0 0 ", "meet 0 0 0 0", "mete 0 0 0", "go 0 0 0", "meet 0 0 0,",
                    "meet 0 0 ,0", "meet 0 0 0,,1", "meet 0 0 ,", "meet 0 0 (0)", "meet 0 0 0, 1", "meet 0 0 -1",
                    "meet 0 0 01", "meet 00 0 0", "meet 0 -0 0", "meet x 0 0", "meet 0 x 0", "meet 0 0 x", "  go 0", " ", "",
                    "go =0", "go yes", f"go {great}", f"meet 0 0 0,{great}", f"meet {great} 0 0", "go 0;", "0", "kind k",
                    "go 1.0", "-"):
            if row:
                self.refused(row, 0)
            self.refused(f"{row}\n{self.GOOD}", 0)
            self.refused(f"{self.GOOD}\n{row}", 3)
            self.refused(f"go 0\n{row}\ngo 3\n{row}", 1)

    def test_empty_rows(self):
        self.refused("\n", 0)
        self.refused("go 0\n", 1)
        self.refused("go 0\n\ngo 0", 1)
        self.assertEqual(read_run(""), [])


if __name__ == "__main__":
    unittest.main()
