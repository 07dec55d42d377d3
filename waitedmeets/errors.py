"""The refusals of the program, one class for each kind of them.

The messages of those that keep a thing do not show it: it may be anything, however large.
"""


class MeetError(ValueError):
    """What is refused for its form."""


class NoProgram(MeetError):
    """No program; kind, rule and deed are the numbers of the first wrong one, or None."""

    def __init__(self, kind, rule, deed):
        MeetError.__init__(self, f"no program: kind {kind}, rule {rule}, deed {deed}")
        self.kind = kind
        self.rule = rule
        self.deed = deed


class NoSet(MeetError):
    """No set of spots."""

    def __init__(self, thing):
        MeetError.__init__(self, "no set of spots")
        self.thing = thing


class NoNames(MeetError):
    """No dict by which a program can be called otherwise."""

    def __init__(self, thing):
        MeetError.__init__(self, "no names to call by")
        self.thing = thing


class NoText(MeetError):
    """A text that can't be read; row is the number of the first wrong row, or None."""

    def __init__(self, row):
        MeetError.__init__(self, f"no such text: row {row}")
        self.row = row


class NoRun(MeetError):
    """No run, or none that chooses; number is that of the first wrong step, -1, or None."""

    def __init__(self, number):
        MeetError.__init__(self, f"no such run: step {number}")
        self.number = number


class NoStep(MeetError):
    """A step that can't be done."""


class NoNumber(MeetError):
    """No number of those that may be handed in there."""


class NoLine(MeetError):
    """No row that a desk is told."""


class NoNet(MeetError):
    """No kind that is a net."""


class NoMarking(MeetError):
    """No marking of a net."""


class NoTeller(MeetError):
    """No kind that is a teller."""


class NoRow(MeetError):
    """No list of places of a teller."""


class Unlike(MeetError):
    """Two tellers whose places have other words."""


class NoKind(KeyError):
    """No name of a kind of the program."""

    def __init__(self, thing):
        KeyError.__init__(self, "no kind of this name")
        self.thing = thing


class NoBody(KeyError):
    """No number of a body that is there, or that can go."""

    def __init__(self, thing):
        KeyError.__init__(self, "no body of this number")
        self.thing = thing


class NoHouse(KeyError):
    """No number of a house."""

    def __init__(self, thing):
        KeyError.__init__(self, "no house of this number")
        self.thing = thing


class NoLot(IndexError):
    """No number of a lot."""

    def __init__(self, thing):
        IndexError.__init__(self, "no lot of this number")
        self.thing = thing


class NoState(IndexError):
    """No number of a state of a machine."""

    def __init__(self, thing):
        IndexError.__init__(self, "no state of this number")
        self.thing = thing


class NoRule(IndexError):
    """No number of a rule that can be done."""

    def __init__(self, thing):
        IndexError.__init__(self, "no rule of this number can be done")
        self.thing = thing


class NoDesk(LookupError):
    """A desk that keeps no runner yet."""


class TooMany(OverflowError):
    """More than are gone through; many is how many."""

    def __init__(self, many):
        OverflowError.__init__(self, f"too many: {many}")
        self.many = many
