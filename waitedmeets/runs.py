"""Runs, lists of steps: whether they can be done, and whether the told rule chooses in them."""

from waitedmeets.errors import NoRun, NoStep
from waitedmeets.meetings import first_meeting
from waitedmeets.stands import Stand


def first_wrong(program, run):
    """None of a run; else the number of the first step that can't be done, -1 of no list."""
    stand, wrong, chosen = gone_through(program, run, False)
    return wrong


def stand_behind(program, run):
    """The stand behind a run; NoRun of what is none."""
    stand, wrong, chosen = gone_through(program, run, False)
    if wrong is not None:
        raise NoRun(wrong)
    return stand


def chooses(program, run):
    """Whether the told rule chooses in a run; NoRun of what is none, also by a step behind the first not chosen."""
    stand, wrong, chosen = gone_through(program, run, True)
    if wrong is not None:
        raise NoRun(wrong)
    return chosen


def gone_through(program, run, watched):
    """The stand behind the steps that can be done, what first_wrong tells, and whether the told rule chose them.

    The last is told only where it is watched.
    """
    stand = Stand(program)
    if not isinstance(run, list):
        return stand, -1, False
    due = None
    for number, step in enumerate(run):
        try:
            stand.do(step)
        except NoStep:
            return stand, number, False
        if watched:
            watched = step == due if due is not None else step[0] == "go"
            due = due_meet(stand)
    return stand, None, watched and due is None


def due_meet(stand):
    """The meeting that is due behind the last step, or None.

    Only where a letter has just come: ahead of it nothing could meet, if all that was due has been done.
    """
    lot = stand.fresh
    if lot is None:
        return None
    meeting = first_meeting(stand.heaps[lot], stand.crew.rules_at(lot))
    if meeting is None:
        return None
    rule, letters = meeting
    return ("meet", lot, rule, letters)
