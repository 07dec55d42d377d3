"""Point 4: words, worths, when two are alike, and the five deeds of two worths."""

import unittest

from waitedmeets.worths import MOST, WORDS, alike, done, is_word, is_worth

from samples import Thing

WORTHS = (
    0, 1, -1, 2, MOST, -MOST, True, False,
    ("lot", 0), ("lot", 1), ("lot", 10 ** 12), ("place", 0, "a"), ("place", 1, "a"), ("place", 0, "letter"),
)
NO_WORTHS = (
    MOST + 1, -MOST - 1, 10 ** 40, None, "", "lot", "one", b"a", [], ["lot", 0], {}, {"lot": 0}, Thing(),
    (), ("lot",), ("lot", 0, "a"), ("lot", -1), ("lot", True), ("lot", False), ("lot", None), ("lot", "a"),
    ("Lot", 0), ("own", 0), (0, "lot"), (b"lot", 0), (["lot"], 0), ("lot", (0,)), ("place", 0),
    ("place", 0, "a", "b"), ("place", -1, "a"), ("place", True, "a"), ("place", 0, ""), ("place", 0, "letters"),
    ("place", 0, "A"), ("place", 0, 0), ("place", 0, None), ("place", 0, ["a"]), ("place", "a", 0), (("lot", 0),),
    (None, None), ((), ()), (1, 2, 3),
)


class Constants(unittest.TestCase):
    def test_most(self):
        self.assertEqual(MOST, 1000000000)
        self.assertIs(type(MOST), int)

    def test_words_in_their_order(self):
        self.assertEqual(WORDS, ("plus", "minus", "times", "below", "same"))
        self.assertIs(type(WORDS), tuple)


class Words(unittest.TestCase):
    def test_one_to_six_small_letters(self):
        for word in ("a", "z", "az", "own", "letter", "zzzzzz", "abcdef", "ghijkl", "mnopqr", "stuvwx", "yz"):
            self.assertIs(is_word(word), True, word)

    def test_other_texts(self):
        for text in ("", "letters", "A", "aB", "Word", "a b", " a", "a ", "a1", "1", "a_b", "-", "a\n", "\t", "`", "{",
                     "a" * 12000):
            self.assertIs(is_word(text), False, text[:9])

    def test_anything(self):
        for thing in (None, True, 0, 1, 12, b"a", [], ["a"], {}, {"a": 1}, (), ("a",), {"a"}, Thing(), is_word):
            self.assertIs(is_word(thing), False)


class Worths(unittest.TestCase):
    def test_worths(self):
        for worth in WORTHS:
            self.assertIs(is_worth(worth), True, worth)

    def test_no_worths(self):
        for thing in NO_WORTHS:
            self.assertIs(is_worth(thing), False, thing)

    def test_nothing_handed_in_is_changed(self):
        things = ["lot", 0]
        is_worth(things)
        is_word(things)
        self.assertEqual(things, ["lot", 0])


class Alike(unittest.TestCase):
    def test_each_is_alike_to_itself_alone(self):
        for at, one in enumerate(WORTHS):
            for number, other in enumerate(WORTHS):
                self.assertIs(alike(one, other), at == number, (one, other))

    def test_truths_and_numbers_are_told_apart(self):
        for one, other in ((True, 1), (1, True), (False, 0), (0, False)):
            self.assertIs(alike(one, other), False)

    def test_made_apart(self):
        self.assertIs(alike(tuple(["lot", 3]), tuple(["lot", 3])), True)
        self.assertIs(alike(tuple(["place", 3, "ab"]), tuple(["place", 3, "ab"])), True)
        self.assertIs(alike(int("123456789"), int("123456789")), True)

    def test_lots_and_places(self):
        self.assertIs(alike(("lot", 3), ("place", 3, "ab")), False)
        self.assertIs(alike(("place", 3, "ab"), ("place", 3, "ac")), False)
        self.assertIs(alike(("place", 3, "ab"), ("place", 4, "ab")), False)

    def test_within_tuples_too(self):
        self.assertIs(alike(("lot", 1), ("lot", True)), False)
        self.assertIs(alike(("place", False, "a"), ("place", 0, "a")), False)
        self.assertIs(alike(("lot", 1), ("lot", 1, "a")), False)
        self.assertIs(alike(("lot", 1), ("lot",)), False)


class Deeds(unittest.TestCase):
    def told(self, word, one, other, told):
        got = done(word, one, other)
        self.assertEqual(got, told, (word, one, other))
        self.assertIs(type(got), tuple)
        self.assertIs(type(got[1]), type(told[1]), (word, one, other))

    def test_plus(self):
        self.told("plus", 2, 3, ("worth", 5))
        self.told("plus", 2, -3, ("worth", -1))
        self.told("plus", MOST - 1, 1, ("worth", MOST))
        self.told("plus", MOST, 1, ("fault", "great"))
        self.told("plus", 1 - MOST, -1, ("worth", -MOST))
        self.told("plus", -MOST, -1, ("fault", "great"))
        self.told("plus", MOST, -MOST, ("worth", 0))

    def test_minus(self):
        self.told("minus", 2, 3, ("worth", -1))
        self.told("minus", 3, 2, ("worth", 1))
        self.told("minus", MOST - 1, -1, ("worth", MOST))
        self.told("minus", MOST, -1, ("fault", "great"))
        self.told("minus", 1 - MOST, 1, ("worth", -MOST))
        self.told("minus", -MOST, 1, ("fault", "great"))
        self.told("minus", MOST, MOST, ("worth", 0))

    def test_times(self):
        self.told("times", 2, 3, ("worth", 6))
        self.told("times", -2, 3, ("worth", -6))
        self.told("times", 31250, 32000, ("worth", MOST))
        self.told("times", -31250, 32000, ("worth", -MOST))
        # 1000000001 is 19 times 52631579.
        self.told("times", 19, 52631579, ("fault", "great"))
        self.told("times", -19, 52631579, ("fault", "great"))
        self.told("times", MOST, MOST, ("fault", "great"))
        self.told("times", MOST, 0, ("worth", 0))

    def test_below(self):
        self.told("below", 2, 3, ("worth", True))
        self.told("below", 3, 2, ("worth", False))
        self.told("below", 2, 2, ("worth", False))
        self.told("below", -MOST, MOST, ("worth", True))

    def test_same(self):
        for at, one in enumerate(WORTHS):
            for number, other in enumerate(WORTHS):
                self.told("same", one, other, ("worth", at == number))

    def test_kind(self):
        others = (True, False, ("lot", 1), ("place", 1, "a"))
        for word in ("plus", "minus", "times", "below"):
            for other in others:
                self.told(word, 1, other, ("fault", "kind"))
                self.told(word, other, 1, ("fault", "kind"))
                self.told(word, other, other, ("fault", "kind"))

    def test_kind_goes_ahead_of_great(self):
        for word in ("plus", "minus", "times"):
            self.told(word, MOST, True, ("fault", "kind"))
            self.told(word, False, -MOST, ("fault", "kind"))

    def test_asked_twice(self):
        for word in WORDS:
            self.assertEqual(done(word, 6, 7), done(word, 6, 7))


class Names(unittest.TestCase):
    def test_arguments_by_name(self):
        self.assertIs(is_word(thing="a"), True)
        self.assertIs(is_worth(thing=1), True)
        self.assertIs(alike(other=1, one=1), True)
        self.assertEqual(done(other=1, one=3, word="minus"), ("worth", 2))


if __name__ == "__main__":
    unittest.main()
