"""Nets: kinds of which it is enough to know how many letters lie at each place."""

from waitedmeets.deeds import is_tuple_of, operands_of
from waitedmeets.errors import NoMarking, NoNet, NoProgram, NoRule
from waitedmeets.programs import look_at_program, names_in
from waitedmeets.worths import is_number_below, is_whole_from

NET_WORDS = ("set", "put", "note")


def is_net(thing):
    """Whether it is a kind that is a net, of anything."""
    return is_kind(thing) and all([is_net_rule(rule) for rule in thing[2]])


def can(net, marking):
    """The numbers, rising, of the rules that can be done at a marking."""
    look_at_net(net)
    look_at_marking(net, marking)
    return [rule for rule, change in enumerate(changes_of(net)) if can_be_done(change, marking)]


def behind(net, marking, rule):
    """The marking behind a rule; NoRule of anything that is no number of one that can be done."""
    look_at_net(net)
    look_at_marking(net, marking)
    changes = changes_of(net)
    if not is_number_below(rule, len(changes)) or not can_be_done(changes[rule], marking):
        raise NoRule(rule)
    return changed(changes[rule], marking)


def look_at_net(thing):
    """NoNet of anything that is no net."""
    if not is_net(thing):
        raise NoNet("no kind that is a net")


def look_at_marking(net, thing):
    """NoMarking of anything that is no marking of a net."""
    if not is_marking(thing, len(net[1])):
        raise NoMarking("no tuple with a whole number from 0 on for each place")


def is_marking(thing, many):
    """Whether it is a tuple of how many letters lie at each of so many places, of anything."""
    return is_tuple_of(thing, many, many) and all([is_whole_from(lying, 0) for lying in thing])


def changes_of(net):
    """What each rule does to a marking: at which places, by numbers, it wants a letter, and how many more are at each
    place behind it."""
    words = [word for word, carried in net[1]]
    return [change_by(rule, words) for rule in net[2]]


def change_by(rule, words):
    """What a rule does to the places of these words."""
    heads, deeds = rule
    taken = [place for place, slots in heads]
    added = [deed[1] for deed in deeds if deed[0] == "put"]
    wanted = [words.index(place) for place in taken]
    return (wanted, [added.count(word) - taken.count(word) for word in words])


def can_be_done(change, marking):
    """Whether a letter lies at each place where one is wanted."""
    wanted, more = change
    return all([marking[place] > 0 for place in wanted])


def changed(change, marking):
    """The marking behind a rule that can be done."""
    wanted, more = change
    return tuple([many + further for many, further in zip(marking, more)])


def is_kind(thing):
    """Whether it is a kind, by itself: it makes no lots but of its own kind, as a net makes none at all."""
    try:
        look_at_program(((thing,), ()))
    except NoProgram:
        return False
    return True


def is_net_rule(rule):
    """Whether a rule's heads ask for no worths, and its deeds only for names that are surely set."""
    heads, deeds = rule
    names = names_in(heads)
    if any([slot[0] == "is" for place, slots in heads for slot in slots]):
        return False
    for deed in deeds:
        if deed[0] not in NET_WORDS or not all([has_worth(operand, names) for operand in operands_of(deed)]):
            return False
        if deed[0] == "set":
            names.append(deed[1])
    return True


def has_worth(operand, names):
    """Whether an operand has a worth where these names have one."""
    return operand[0] != "of" or operand[1] in names
