"""All ends of a program, through all rows of steps."""

from waitedmeets.bounds import look_at_number
from waitedmeets.errors import TooMany
from waitedmeets.runner import Runner
from waitedmeets.stands import Stand

MOST_STANDS = 20000


def ends(program, *, most=4000, compiled=False):
    """The unlike ends, tuples (notes, how many bodies wait, faults), sorted by their texts."""
    first = Runner(program) if compiled else Stand(program)
    look_at_number(most, 1, MOST_STANDS)
    # By their texts, as Python takes True and 1 for the same.
    found = {}
    met = {first.seen(): True}
    left = [first]
    while len(left) > 0:
        stand = left.pop()
        onward = stands_behind(stand, compiled)
        if len(onward) == 0:
            end = end_at(stand)
            found[repr(end)] = end
        for other in onward:
            image = other.seen()
            if image not in met:
                met[image] = True
                left.append(other)
        if len(met) > most:
            raise TooMany(most + 1)
    return [found[text] for text in sorted(found)]


def stands_behind(stand, compiled):
    """A stand, or a runner, behind each step that can be done."""
    if compiled:
        return [gone_by(stand, body) for body in stand.ready()]
    return [done_by(stand, step) for step in stand.steps()]


def done_by(stand, step):
    """A stand behind one more step."""
    other = stand.twin()
    other.do(step)
    return other


def gone_by(runner, body):
    """A runner behind one more go of a body."""
    other = runner.twin()
    other.go(body)
    return other


def end_at(stand):
    """What is told of a stand, or a runner, at which no step can be done."""
    waiting = [number for number, lot, many, waits in stand.bodies() if waits]
    return (tuple(stand.notes()), len(waiting), tuple(stand.faults()))
