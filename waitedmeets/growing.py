"""What a net can come to hold: a closed table of markings, or rules by which it grows without end."""

from waitedmeets.bounds import look_at_number
from waitedmeets.deeds import is_tuple_of
from waitedmeets.errors import TooMany
from waitedmeets.nets import can_be_done, changed, changes_of, is_marking, look_at_marking, look_at_net
from waitedmeets.worths import is_number_below, says

MOST_MARKINGS = 5000


class Way:
    """A marking with how it is come to: from the way ahead, None of the first marking, by a rule.

    lows has the fewest letters at each place on this way, so that it needn't be gone back for most markings.
    """

    def __init__(self, marking, ahead, rule):
        self.marking = marking
        self.ahead = ahead
        self.rule = rule
        self.lows = marking
        if ahead is not None:
            self.lows = tuple([min(many, low) for many, low in zip(marking, ahead.lows)])

    def grown_from(self):
        """The nearest way ahead whose marking this one is nowhere fewer than; None where there is none."""
        if self.ahead is None or not covers(self.marking, self.ahead.lows):
            return None
        way = self.ahead
        while way is not None and not covers(self.marking, way.marking):
            way = way.ahead
        return way

    def rules_behind(self, other):
        """The rules that lead here from a marking on this way, or from the first one where None is told."""
        rules = []
        way = self
        while way.ahead is not None and (other is None or way.marking != other.marking):
            rules.append(way.rule)
            way = way.ahead
        return rules[::-1]


def holds(net, marking, *, most=500):
    """("closed", markings), all that are come to, or ("grows", stem, lap), rules; TooMany where most are too few."""
    look_at_net(net)
    look_at_marking(net, marking)
    look_at_number(most, 1, MOST_MARKINGS)
    return told_of(changes_of(net), Way(marking, None, None), most)


def told_of(changes, first, most):
    """What holds tells, gone through by how many rules lead to a marking, then rule by rule."""
    ways = [first]
    met = {first.marking: True}
    at = 0
    while at < len(ways):
        onward = ways_on(changes, ways[at])
        for way in onward:
            if way.marking in met:
                continue
            if len(ways) == most:
                raise TooMany(most + 1)
            base = way.grown_from()
            if base is not None:
                return ("grows", base.rules_behind(None), way.rules_behind(base))
            met[way.marking] = True
            ways.append(way)
        at += 1
    return ("closed", sorted([way.marking for way in ways]))


def ways_on(changes, way):
    """The ways that lead on from one, rule by rule."""
    marking = way.marking
    rules = [rule for rule, change in enumerate(changes) if can_be_done(change, marking)]
    return [Way(changed(changes[rule], marking), way, rule) for rule in rules]


def covers(marking, other):
    """Whether a marking is nowhere fewer than another one."""
    return all([many >= least for many, least in zip(marking, other)])


def lets_holds(net, marking, thing):
    """Whether it is a tuple that holds might tell of a net and a marking, whoever wrote it; of anything."""
    look_at_net(net)
    look_at_marking(net, marking)
    changes = changes_of(net)
    if is_tuple_of(thing, 2, 2) and says(thing[0], "closed"):
        return is_closed(changes, marking, thing[1])
    if is_tuple_of(thing, 3, 3) and says(thing[0], "grows"):
        return is_growing(changes, marking, thing[1], thing[2])
    return False


def is_closed(changes, first, thing):
    """Whether it is a list of unlike markings, the first one there, that no rule leads out of."""
    if not isinstance(thing, list) or not all([is_marking(marking, len(first)) for marking in thing]):
        return False
    listed = {marking: True for marking in thing}
    if len(listed) != len(thing) or first not in listed:
        return False
    return all([
        changed(change, marking) in listed
        for marking in thing for change in changes if can_be_done(change, marking)
    ])


def is_growing(changes, first, stem, lap):
    """Whether these are lists of rules that can be done, behind the last of which more lies than ahead of the lap."""
    if not isinstance(stem, list) or not isinstance(lap, list):
        return False
    ahead = marking_behind(changes, first, stem)
    if ahead is None:
        return False
    last = marking_behind(changes, ahead, lap)
    # Nothing is more behind an empty lap, so that none has to be asked for.
    return last is not None and last != ahead and covers(last, ahead)


def marking_behind(changes, marking, rules):
    """The marking behind a list of rules, of anything; None where one of them can't be done."""
    for rule in rules:
        if not is_number_below(rule, len(changes)) or not can_be_done(changes[rule], marking):
            return None
        marking = changed(changes[rule], marking)
    return marking
