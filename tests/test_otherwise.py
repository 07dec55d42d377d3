"""Point 27: programs, and worths, called otherwise."""

import random
import unittest

from waitedmeets.errors import MeetError, NoNames, NoProgram
from waitedmeets.otherwise import called, worth_called
from waitedmeets.programs import look_at_program
from waitedmeets.runner import Runner
from waitedmeets.runs import first_wrong
from waitedmeets.stands import Stand
from waitedmeets.world import World

from drawn import draw_program, walked, woven
from samples import BOX, BOXED, FULL, JUNK, OWN, Thing, all_words, head, isw, kind, lot_at, of, rule

# Each word of FULL's kinds, and each word of its places and names.
KINDS = ("shop", "idle", "desk")
WORDS = ("ask", "hold", "none", "full", "who", "x", "y", "n", "p", "z", "any", "row", "s", "a", "t", "b", "c")
NEW = ("na", "nb", "nc", "nd", "ne", "nf", "ng", "nh", "ni", "nj", "nk", "nl", "nm", "nn", "no", "np", "nq")


def told_by(thing):
    """All that a Stand, a Runner or a World tells, but for steps."""
    lots = range(len(thing.lots()))
    rows = (thing.lots(), [thing.heap(lot) for lot in lots], thing.bodies(), thing.notes(), thing.faults())
    if isinstance(thing, World):
        return rows
    return (*rows, [thing.names(row[0]) for row in thing.bodies()])


def told_called(told, kinds, words):
    """What was told, with its kinds, places, names and worths called otherwise by hand."""
    lots, heaps, bodies, notes, faults, *names = told

    def worth(thing):
        if isinstance(thing, tuple) and thing[0] == "place":
            return ("place", thing[1], words.get(thing[2], thing[2]))
        return thing

    def letter(row):
        return (row[0], words.get(row[1], row[1]), tuple(worth(thing) for thing in row[2]), row[3])

    rows = ([kinds.get(name, name) for name in lots], [[letter(row) for row in heap] for heap in heaps], bodies,
            [worth(thing) for thing in notes], faults)
    if not names:
        return rows
    return (*rows, [{words.get(name, name): worth(row[name]) for name in row} for row in names[0]])


def text_of(told):
    return repr([sorted(piece.items()) if isinstance(piece, dict) else piece for piece in told])


class ByHand(unittest.TestCase):
    def test_none_told(self):
        for program in (FULL, BOXED, draw_program(1)):
            self.assertEqual(repr(called(program)), repr(program))
            self.assertEqual(repr(called(program, kinds={}, words={})), repr(program))
            self.assertEqual(repr(called(program, kinds=None, words=None)), repr(program))

    def test_all_by_new_words(self):
        """By hand, through the text of the program: its new words are none that it had."""
        kinds = dict(zip(KINDS, ("ka", "kb", "kc")))
        words = dict(zip(WORDS, NEW))
        got = called(FULL, kinds=kinds, words=words)
        shop = (
            "ka",
            (("na", 2), ("nb", 0), ("nc", 0), ("nd", 3)),
            (
                (
                    (("na", (("as", "ne"), ("is", 7))), ("nb", ())),
                    (
                        ("set", "nf", ("of", "ne")),
                        ("let", "ng", "plus", ("of", "nf"), ("is", -3)),
                        ("note", ("own",)),
                        ("make", "nh", "kc"),
                        ("place", "ni", ("of", "nh"), "nl"),
                        ("when", ("is", True), 2),
                        ("lay", ("of", "ni"), (("own",),)),
                        ("put", "nd", (("is", 1), ("of", "nf"), ("own",))),
                        ("call", "nj", ("of", "ni"), (("of", "ng"),)),
                        ("answer", "na", ("of", "nj")),
                        ("put", "nb", ()),
                    ),
                ),
                ((("nc", ()),), ()),
            ),
        )
        desk = (
            "kc", (("nl", 1),),
            (
                ((("nl", (("is", False),)),), (("answer", "nl", ("is", False)), ("note", ("is", 10 ** 9)))),
                ((("nl", (("as", "nl"),)),), (("set", "nl", ("of", "nl")),)),
            ),
        )
        main = (
            ("make", "nm", "ka"), ("place", "nn", ("of", "nm"), "na"), ("let", "no", "same", ("of", "nn"), ("is", 0)),
            ("when", ("of", "no"), 1), ("lay", ("of", "nn"), (("is", 1), ("is", 7))), ("call", "np", ("of", "nn"), ()),
            ("note", ("of", "np")), ("set", "nq", ("is", -10 ** 9)),
        )
        self.assertEqual(repr(got), repr(((shop, ("kb", (("nk", 1),), ()), desk), main)))
        back = called(got, kinds={new: old for old, new in kinds.items()}, words={new: old for old, new in words.items()})
        self.assertEqual(repr(back), repr(FULL))

    def test_words_are_those_of_places_and_names_alone(self):
        self.assertEqual(all_words(FULL), sorted(WORDS))

    def test_exchanged(self):
        got = called(BOXED, words={"put": "get", "get": "put", "b": "x", "x": "b"})
        self.assertEqual(got[0], (kind("box", "get1 put0", rule([head("get", "v"), "put"], ("answer", "put", of("v")))),))
        self.assertEqual(got[1][0], ("make", "x", "box"))
        self.assertEqual(got[1][1], ("place", "get", of("x"), "get"))
        self.assertEqual(got[1][4], ("call", "b", of("put"), ()))
        self.assertEqual(called(got, words={"put": "get", "get": "put", "b": "x", "x": "b"}), BOXED)
        two = ((kind("k", "a0"), kind("l", "b0")), (("make", "x", "k"), ("make", "y", "l")))
        self.assertEqual(called(two, kinds={"k": "l", "l": "k"}),
                         ((kind("l", "a0"), kind("k", "b0")), (("make", "x", "l"), ("make", "y", "k"))))

    def test_in_a_ring(self):
        got = called(BOXED, words={"put": "get", "get": "b", "b": "x", "x": "put"})
        self.assertIsNone(look_at_program(got))
        self.assertEqual(called(got, words={"get": "put", "b": "get", "x": "b", "put": "x"}), BOXED)

    def test_left_out(self):
        got = called(BOXED, words={"v": "thing"})
        self.assertEqual(got[1], BOXED[1])
        self.assertEqual(got[0], (kind("box", "put1 get0", rule([head("put", "thing"), "get"],
                                                                ("answer", "get", of("thing")))),))
        self.assertEqual(called(BOXED, kinds={"box": "chest"})[0], (("chest", *BOX[1:]),))

    def test_a_kind_and_a_place_of_the_same_word(self):
        program = ((kind("a", "a0", rule(["a"], ("make", "b", "a"), ("put", "a", ()))),),
                   (("make", "a", "a"), ("place", "a", of("a"), "a"), ("lay", of("a"), ())))
        self.assertEqual(called(program, kinds={"a": "z"}),
                         ((kind("z", "a0", rule(["a"], ("make", "b", "z"), ("put", "a", ()))),),
                          (("make", "a", "z"), ("place", "a", of("a"), "a"), ("lay", of("a"), ()))))
        self.assertEqual(called(program, words={"a": "z"}),
                         ((kind("a", "z0", rule(["z"], ("make", "b", "a"), ("put", "z", ()))),),
                          (("make", "z", "a"), ("place", "z", of("z"), "z"), ("lay", of("z"), ()))))
        self.assertEqual(called(program, kinds={"a": "z"}, words={"a": "z"})[1][0], ("make", "z", "z"))

    def test_places_and_names_alike(self):
        """A word is called the same wherever it stands: a place, a name of a rule, a name of main."""
        program = ((kind("k", "a0 b1", rule([head("b", "a")], ("note", of("a")), ("set", "b", OWN), ("put", "a", ()))),),
                   (("set", "a", isw(1)), ("note", of("a"))))
        self.assertEqual(called(program, words={"a": "z"}),
                         ((kind("k", "z0 b1", rule([head("b", "z")], ("note", of("z")), ("set", "b", OWN), ("put", "z", ()))),),
                          (("set", "z", isw(1)), ("note", of("z")))))

    def test_deeds_words_and_reckoning_stay(self):
        """Names may be words of deeds, of reckoning, of operands: only as names are they called otherwise."""
        program = ((kind("k", "set0 plus1", rule([head("plus", "of"), "set"], ("let", "is", "plus", of("of"), isw(1)),
                                                 ("answer", "set", of("is")), ("put", "set", ()))),),
                   (("set", "set", isw(2)), ("let", "own", "same", of("set"), of("set")), ("note", of("own"))))
        words = {"set": "aa", "plus": "ab", "of": "ac", "is": "ad", "own": "ae"}
        self.assertEqual(
            called(program, words=words),
            ((kind("k", "aa0 ab1", rule([head("ab", "ac"), "aa"], ("let", "ad", "plus", of("ac"), isw(1)),
                                        ("answer", "aa", of("ad")), ("put", "aa", ()))),),
             (("set", "aa", isw(2)), ("let", "ae", "same", of("aa"), of("aa")), ("note", of("ae")))),
        )

    def test_a_place_that_no_kind_has(self):
        program = ((kind("k", "a0"),), (("make", "m", "k"), ("place", "p", of("m"), "none")))
        self.assertEqual(called(program, words={"none": "a", "a": "none"}),
                         ((kind("k", "none0"),), (("make", "m", "k"), ("place", "p", of("m"), "a"))))
        with self.assertRaises(NoNames):
            called(program, words={"a": "none"})

    def test_arguments(self):
        self.assertEqual(called(words={"v": "w"}, program=BOXED, kinds={"box": "bin"}),
                         called(BOXED, kinds={"box": "bin"}, words={"v": "w"}))
        with self.assertRaises(TypeError):
            called(BOXED, {"box": "bin"})

    def test_what_is_handed_in_stays(self):
        kinds, words = {"box": "bin"}, {"v": "w", "b": "c"}
        called(BOXED, kinds=kinds, words=words)
        self.assertEqual((kinds, words), ({"box": "bin"}, {"v": "w", "b": "c"}))

    def test_the_order_of_keys(self):
        words = dict(zip(WORDS, NEW))
        turned = dict(reversed(list(words.items())))
        self.assertEqual(called(FULL, words=words), called(FULL, words=turned))


class Worths(unittest.TestCase):
    def test_places_alone(self):
        words = {"a": "b", "b": "c", "lot": "x", "place": "y"}
        for worth, wanted in (
            (("place", 3, "a"), ("place", 3, "b")), (("place", 0, "b"), ("place", 0, "c")),
            (("place", 1, "z"), ("place", 1, "z")), (("place", 1, "place"), ("place", 1, "y")), (("lot", 4), ("lot", 4)),
            (0, 0), (1, 1), (True, True), (False, False), (-10 ** 9, -10 ** 9),
        ):
            self.assertEqual(repr(worth_called(worth, words)), repr(wanted))
            self.assertEqual(repr(worth_called(worth, {})), repr(worth))
            self.assertEqual(repr(worth_called(worth, None)), repr(worth))
            self.assertEqual(repr(worth_called(worth=worth, words={"q": "r"})), repr(worth))
        self.assertEqual(words, {"a": "b", "b": "c", "lot": "x", "place": "y"})


class SameRuns(unittest.TestCase):
    def callings(self, seed):
        """A drawn program, and dicts that call it otherwise: some words new, some exchanged, some left out."""
        program = draw_program(seed)
        rng = random.Random(seed)
        names = [one[0] for one in program[0]]
        words = all_words(program)
        shuffled = rng.sample(words, len(words))
        changed = {old: rng.choice((new, old + "q")) for old, new in zip(words, shuffled)}
        if len(set(changed.values())) < len(changed):
            changed = dict(zip(words, shuffled))
        kinds = dict(zip(names, rng.sample(names, len(names)))) if rng.random() < 0.5 else {names[0]: "fresh"}
        return program, kinds, changed

    def test_stands(self):
        for seed in range(60):
            program, kinds, words = self.callings(seed)
            other = called(program, kinds=kinds, words=words)
            self.assertIsNone(look_at_program(other))
            beside = Stand(other)
            for stand in walked(Stand(program), seed, 40):
                beside.do(stand.done()[-1])
                self.assertEqual(beside.steps(), stand.steps())
                self.assertEqual(text_of(told_by(beside)), text_of(told_called(told_by(stand), kinds, words)))
            self.assertIsNone(first_wrong(other, beside.done()))

    def test_runners(self):
        for seed in range(60):
            program, kinds, words = self.callings(seed)
            beside = Runner(called(program, kinds=kinds, words=words))
            for runner in woven(Runner(program), seed, 40):
                beside.go(runner.weaving()[-1])
                self.assertEqual((beside.run(), beside.ready()), (runner.run(), runner.ready()))
                self.assertEqual(text_of(told_by(beside)), text_of(told_called(told_by(runner), kinds, words)))
                self.assertEqual([beside.state(lot) for lot in range(len(beside.lots()))],
                                 [runner.state(lot) for lot in range(len(runner.lots()))])

    def test_worlds(self):
        for seed in range(40):
            program, kinds, words = self.callings(seed)
            world, beside = World(program, houses=3), World(called(program, kinds=kinds, words=words), houses=3)
            rng = random.Random(seed)
            for _ in range(40):
                self.assertEqual(beside.steps(), world.steps())
                if not world.steps():
                    break
                step = rng.choice(world.steps())
                world.do(step)
                beside.do(step)
                self.assertEqual((beside.run(), beside.post()), (world.run(), world.post()))
                self.assertEqual(text_of(told_by(beside)), text_of(told_called(told_by(world), kinds, words)))

    def test_back_again(self):
        for seed in range(60):
            program, kinds, words = self.callings(seed)
            other = called(program, kinds=kinds, words=words)
            back = called(other, kinds={kinds[name]: name for name in kinds}, words={words[name]: name for name in words})
            self.assertEqual(repr(back), repr(program))

    def test_worths_of_notes(self):
        main = (*lot_at("m", "box", ("put",)), ("note", of("put")), ("note", of("m")), ("note", isw(True)))
        words = {"put": "lay", "m": "n"}
        stand, beside = Stand(((BOX,), main)), Stand(called(((BOX,), main), words=words))
        for _ in range(5):
            stand.do(("go", 0))
            beside.do(("go", 0))
        self.assertEqual(repr(beside.notes()), "[('place', 0, 'lay'), ('lot', 0), True]")
        self.assertEqual(beside.notes(), [worth_called(worth, words) for worth in stand.notes()])


class Refused(unittest.TestCase):
    def refused(self, program, thing, **more):
        with self.assertRaises(NoNames) as caught:
            called(program, **more)
        self.assertIs(caught.exception.thing, thing)

    def each(self, thing):
        self.refused(BOXED, thing, kinds=thing)
        self.refused(BOXED, thing, words=thing)

    def test_no_dicts(self):
        for thing in (*[junk for junk in JUNK if junk is not None and not isinstance(junk, dict)], 0, True, False, (),
                      [("box", "bin")], (("box", "bin"),), "box", {"box"}):
            self.each(thing)

    def test_keys_that_are_none_of_the_program_s(self):
        for key in ("other", "", "Box", None, 0, True, ("box",), b"box", ("put",), Thing(), "answer", "of", "is", "as"):
            self.each({key: "new"})
        for thing in ({"put": "new"}, {"box": "bin", "put": "new"}):
            self.refused(BOXED, thing, kinds=thing)
        for thing in ({"box": "bin"}, {"put": "new", "box": "bin"}, {"plus": "new"}):
            self.refused(BOXED, thing, words=thing)

    def test_words_that_are_none(self):
        for word in ("", "letters", "A", "a b", "a1", None, 0, True, b"a", ("a",), ["a"], {}, Thing()):
            thing = {"box": word}
            self.refused(BOXED, thing, kinds=thing)
            thing = {"put": word}
            self.refused(BOXED, thing, words=thing)
            thing = {"get": "new", "put": word}
            self.refused(BOXED, thing, words=thing)

    def test_two_called_alike(self):
        for thing in ({"put": "same", "get": "same"}, {"put": "get"}, {"put": "v"}, {"b": "v", "x": "b", "put": "b"},
                      {"v": "x"}, {"put": "get", "get": "b"}):
            self.refused(BOXED, thing, words=thing)
        two = ((kind("k", "a0"), kind("l", "a0"), kind("m", "a0")), ())
        for thing in ({"k": "z", "l": "z"}, {"k": "l"}, {"k": "l", "l": "m"}, {"m": "k"}):
            self.refused(two, thing, kinds=thing)
        self.assertEqual(called(two, kinds={"k": "l", "l": "m", "m": "k"})[0][0][0], "l")

    def test_a_kind_may_be_called_as_a_word_is(self):
        self.assertEqual(called(BOXED, kinds={"box": "put"})[0][0][0], "put")
        self.assertEqual(called(BOXED, words={"put": "box"})[0][0][1][0], ("box", 1))

    def test_kinds_ahead_of_words(self):
        kinds, words = {"box": ""}, {"put": ""}
        self.refused(BOXED, kinds, kinds=kinds, words=words)
        self.refused(BOXED, words, kinds={"box": "bin"}, words=words)

    def test_no_program_goes_first(self):
        for thing in (*JUNK, (), list(BOXED), (BOXED[0],)):
            for names in (None, {}, {"box": ""}, 5):
                with self.assertRaises(NoProgram):
                    called(thing, kinds=names)
                with self.assertRaises(NoProgram):
                    called(thing, words=names)
        with self.assertRaises(NoProgram) as caught:
            called((BOXED[0], (("note", isw(1)), ("note", OWN))), kinds=5)
        self.assertEqual(caught.exception.deed, 1)

    def test_what_is_refused_changes_nothing(self):
        thing = {"put": "get", "v": "w"}
        self.refused(BOXED, thing, words=thing)
        self.assertEqual(thing, {"put": "get", "v": "w"})
        self.assertTrue(issubclass(NoNames, MeetError))


if __name__ == "__main__":
    unittest.main()
