"""Runs, lists of steps: whether they can be done, and whether the told rule chooses in them."""

from waitedmeets.errors import NoRun, NoStep
from waitedmeets.meetings import first_meeting
from waitedmeets.stands import Stand


def first_wrong(program, run):
    """None of a run; else the number of the first step that can't be done, -1 of no list."""
    stand, wrong = gone_through(program, run)
    return wrong


def stand_behind(program, run):
    """The stand behind a run; NoRun of what is none."""
    stand, wrong = gone_through(program, run)
    if wrong is not None:
        raise NoRun(wrong)
    return stand


def chooses(program, run):
    """Whether the told rule chooses in a run; NoRun of what is none."""
    # Whether it is a run at all goes ahead, also of steps behind the first that isn't chosen.
    stand_behind(program, run)
    stand = Stand(program)
    due = None
    for step in run:
        if (due is not None or step[0] == "meet") and step != due:
            return False
        stand.do(step)
        due = due_meet(stand)
    return due is None


def gone_through(program, run):
    """The stand behind the steps that can be done, and what first_wrong tells."""
    stand = Stand(program)
    if not isinstance(run, list):
        return stand, -1
    for number, step in enumerate(run):
        try:
            stand.do(step)
        except NoStep:
            return stand, number
    return stand, None


def due_meet(stand):
    """The meeting that is due behind the last step, or None.

    Only where a letter has just come: ahead of it nothing could meet, if all that was due has been done.
    """
    lot = stand.fresh
    if lot is None:
        return None
    meeting = first_meeting(stand.heaps[lot], stand.crew.rules_at(lot))
    if meeting is None:
        return None
    rule, letters = meeting
    return ("meet", lot, rule, letters)
