"""Nets: kinds of which it is enough to know how many letters lie at each place."""

from waitedmeets.deeds import operands_of
from waitedmeets.errors import NoMarking, NoNet, NoProgram, NoRule
from waitedmeets.programs import look_at_program, names_in
from waitedmeets.worths import is_whole, is_whole_from

NET_WORDS = ("set", "put", "note")


def is_net(thing):
    """Whether it is a kind that is a net, of anything."""
    return is_kind(thing) and all([is_net_rule(rule) for rule in thing[2]])


def can(net, marking):
    """The numbers, rising, of the rules that can be done at a marking."""
    look_at_net(net)
    look_at_marking(net, marking)
    return rules_possible(net, marking)


def behind(net, marking, rule):
    """The marking behind a rule; NoRule of anything that is no number of one that can be done."""
    look_at_net(net)
    look_at_marking(net, marking)
    if not is_whole(rule) or rule not in rules_possible(net, marking):
        raise NoRule(rule)
    heads, deeds = net[2][rule]
    taken = [place for place, slots in heads]
    added = [deed[1] for deed in deeds if deed[0] == "put"]
    words = [word for word, carried in net[1]]
    return tuple([many - taken.count(word) + added.count(word) for word, many in zip(words, marking)])


def look_at_net(thing):
    """NoNet of anything that is no net."""
    if not is_net(thing):
        raise NoNet("no kind that is a net")


def look_at_marking(net, thing):
    """NoMarking of anything that is no marking of a net."""
    if not isinstance(thing, tuple) or len(thing) != len(net[1]):
        raise NoMarking("no tuple with a number for each place")
    if not all([is_whole_from(many, 0) for many in thing]):
        raise NoMarking("not all are whole numbers from 0 on")


def rules_possible(net, marking):
    """The numbers of the rules of which each head's place has a letter."""
    lying = [row[0] for row, many in zip(net[1], marking) if many > 0]
    return [number for number, (heads, deeds) in enumerate(net[2]) if has_all(lying, heads)]


def has_all(lying, heads):
    """Whether letters lie at the places of all heads."""
    return all([place in lying for place, slots in heads])


def is_kind(thing):
    """Whether it is a kind, by itself: it makes no lots but of its own kind, as a net makes none at all."""
    try:
        look_at_program(((thing,), ()))
    except NoProgram:
        return False
    return True


def is_net_rule(rule):
    """Whether a rule's heads ask for no worths, and its deeds only for names that are surely set."""
    heads, deeds = rule
    names = names_in(heads)
    if any([slot[0] == "is" for place, slots in heads for slot in slots]):
        return False
    for deed in deeds:
        if deed[0] not in NET_WORDS or not all([has_worth(operand, names) for operand in operands_of(deed)]):
            return False
        if deed[0] == "set":
            names.append(deed[1])
    return True


def has_worth(operand, names):
    """Whether an operand has a worth where these names have one."""
    return operand[0] != "of" or operand[1] in names
