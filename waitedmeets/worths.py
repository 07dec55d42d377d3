"""Worths: what names hold and letters carry, and the deeds of two of them."""

MOST = 10 ** 9
WORDS = ("plus", "minus", "times", "below", "same")

LONGEST_WORD = 6


def is_word(thing):
    """Whether it is a text of one to six small letters."""
    if not isinstance(thing, str) or not 1 <= len(thing) <= LONGEST_WORD:
        return False
    # Asked first whether it is ascii, as there are small letters elsewhere, too.
    return thing.isascii() and thing.isalpha() and thing.islower()


def says(thing, word):
    """Whether it is just this text: asked first whether it is one, as it may be anything."""
    return isinstance(thing, str) and thing == word


def is_whole(thing):
    """Whether it is a whole number; Python counts truths as ints, worths do not."""
    return isinstance(thing, int) and not isinstance(thing, bool)


def is_whole_from(thing, least):
    """Whether it is a whole number that is no less than least."""
    return is_whole(thing) and thing >= least


def is_number_below(thing, many):
    """Whether it is the number of one of so many, numbered from 0, of anything."""
    return is_whole(thing) and 0 <= thing < many


def is_number(thing):
    """Whether it is a number that is a worth."""
    return is_whole(thing) and -MOST <= thing <= MOST


def is_written(thing):
    """Whether it is a number or a truth, the worths that can stand in a program; Python's truths are ints, too."""
    return isinstance(thing, int) and -MOST <= thing <= MOST


def is_lot(thing):
    """Whether it is the worth of a lot."""
    if not isinstance(thing, tuple) or len(thing) != 2:
        return False
    return says(thing[0], "lot") and is_whole_from(thing[1], 0)


def is_place(thing):
    """Whether it is the worth of a place of a lot."""
    if not isinstance(thing, tuple) or len(thing) != 3:
        return False
    return says(thing[0], "place") and is_whole_from(thing[1], 0) and is_word(thing[2])


def is_worth(thing):
    """Whether it is a number, a truth, a lot or a place of one."""
    return is_written(thing) or is_lot(thing) or is_place(thing)


def alike(one, other):
    """Whether two worths are the same; True is not 1 here, although Python says so."""
    if isinstance(one, tuple) and isinstance(other, tuple):
        return len(one) == len(other) and all([alike(a, b) for a, b in zip(one, other)])
    return isinstance(one, bool) == isinstance(other, bool) and one == other


def done(word, one, other):
    """What the deed of this word tells of two worths: a worth or a fault."""
    if word == "same":
        return ("worth", alike(one, other))
    if not (is_number(one) and is_number(other)):
        return ("fault", "kind")
    if word == "below":
        return ("worth", one < other)
    return within_bounds(reckoned(word, one, other))


def reckoned(word, one, other):
    """The sum, difference or product, however large."""
    if word == "plus":
        return one + other
    if word == "minus":
        return one - other
    return one * other


def within_bounds(number):
    """The worth that a number is, or the fault where it is none."""
    if is_number(number):
        return ("worth", number)
    return ("fault", "great")
