"""Programs: kinds with their places and rules, and main; the first wrong thing of what is none."""

from waitedmeets.deeds import Ground, first_wrong_deed, is_named, is_tuple_of
from waitedmeets.errors import NoKind, NoProgram
from waitedmeets.worths import is_whole, is_word, is_written, says

MOST_KINDS = 6
MOST_IN_MAIN = 16
MOST_PLACES = 6
MOST_CARRIED = 3
MOST_RULES = 8
MOST_HEADS = 4
MOST_IN_RULE = 12

# The least program: quick to look at where an object is made whose parts are another one's.
LEAST = ((("k", (("a", 0),), ()),), ())


def look_at_program(thing):
    """None of a program; of all else NoProgram, which tells its first wrong thing."""
    if not is_frame(thing):
        raise NoProgram(None, None, None)
    kinds, main = thing
    look_at_shapes(kinds)
    # Any rule may make a lot of any kind, so all names are known ahead of the rules.
    names = [kind[0] for kind in kinds]
    for at, kind in enumerate(kinds):
        look_at_rules(at, kind, names)
    wrong = first_wrong_deed(main, Ground(names, {}, [], False))
    if wrong is not None:
        raise NoProgram(None, None, wrong)


def kind_of(program, name):
    """The kind of this name; NoKind of anything that names none."""
    look_at_program(program)
    return kind_named(program, name)


def kind_named(program, name):
    """The kind of this name, where only the frame of the program is looked at; NoKind of anything that names none."""
    if not is_frame(program):
        raise NoProgram(None, None, None)
    for kind in program[0]:
        if says(name, kind[0]):
            return kind
    raise NoKind(name)


def main_of(program):
    """The deeds of main."""
    look_at_program(program)
    return program[1]


def is_frame(thing):
    """Whether it has the outermost shape of a program, whatever its kinds and deeds are."""
    if not is_tuple_of(thing, 2, 2):
        return False
    return is_tuple_of(thing[0], 1, MOST_KINDS) and is_tuple_of(thing[1], 0, MOST_IN_MAIN)


def look_at_shapes(kinds):
    """NoProgram of the first kind without the shape of one, or whose name stood ahead."""
    names = []
    for at, kind in enumerate(kinds):
        if not has_shape(kind) or kind[0] in names:
            raise NoProgram(at, None, None)
        names.append(kind[0])


def has_shape(thing):
    """Whether it has the shape of a kind, whatever its rules are."""
    if not isinstance(thing, tuple) or len(thing) != 3:
        return False
    return is_word(thing[0]) and are_places(thing[1]) and is_tuple_of(thing[2], 0, MOST_RULES)


def are_places(thing):
    """Whether these are the places of a kind."""
    if not is_tuple_of(thing, 1, MOST_PLACES):
        return False
    for row in thing:
        if not is_place_row(row):
            return False
    return are_unlike([row[0] for row in thing])


def is_place_row(thing):
    """Whether it is a place's word with how many things its letters carry."""
    if not isinstance(thing, tuple) or len(thing) != 2:
        return False
    return is_word(thing[0]) and is_whole(thing[1]) and 0 <= thing[1] <= MOST_CARRIED


def are_unlike(words):
    """Whether no word stands there twice."""
    return len(set(words)) == len(words)


def look_at_rules(at, kind, names):
    """NoProgram of the first wrong rule of kind number at, or of its first wrong deed."""
    places = {word: many for word, many in kind[1]}
    for number, rule in enumerate(kind[2]):
        if not is_rule_frame(rule, places):
            raise NoProgram(at, number, None)
        heads = [place for place, slots in rule[0]]
        wrong = first_wrong_deed(rule[1], Ground(names, places, heads, True))
        if wrong is not None:
            raise NoProgram(at, number, wrong)


def is_rule_frame(thing, places):
    """Whether it has the shape of a rule with right heads, whatever its deeds are."""
    if not isinstance(thing, tuple) or len(thing) != 2:
        return False
    return are_heads(thing[0], places) and is_tuple_of(thing[1], 0, MOST_IN_RULE)


def are_heads(thing, places):
    """Whether these are the heads of a rule of a kind with these places."""
    if not is_tuple_of(thing, 1, MOST_HEADS):
        return False
    for head in thing:
        if not is_head(head, places):
            return False
    return are_unlike([head[0] for head in thing]) and are_unlike(names_in(thing))


def is_head(thing, places):
    """Whether it is a place with a slot for each thing that its letters carry."""
    if not isinstance(thing, tuple) or len(thing) != 2 or not is_named(thing[0], places):
        return False
    if not isinstance(thing[1], tuple) or len(thing[1]) != places[thing[0]]:
        return False
    for slot in thing[1]:
        if not is_slot(slot):
            return False
    return True


def is_slot(thing):
    """Whether it is a name to take a worth by, or a worth to ask for."""
    if not isinstance(thing, tuple) or len(thing) != 2:
        return False
    if thing[0] == "as":
        return is_word(thing[1])
    return thing[0] == "is" and is_written(thing[1])


def names_in(heads):
    """The names that the slots of right heads take worths by."""
    return [name for place, slots in heads for how, name in slots if how == "as"]
