"""Programs and runs as texts, and texts read back to them."""

from waitedmeets.deeds import PARTS
from waitedmeets.errors import NoProgram, NoText
from waitedmeets.forms import row_read, step_read
from waitedmeets.programs import look_at_program
from waitedmeets.worths import says


class Draft:
    """A program as it is read, row by row; deeds is the list to which deeds go, None where none may stand."""

    def __init__(self):
        self.drawn = []
        self.main = None
        self.deeds = None

    def take(self, row, what):
        """Takes a row in; tells whether it may stand there."""
        if row == "deed":
            return self.take_deed(what)
        if self.main is not None:
            return False
        if row == "main":
            self.main = []
            self.deeds = self.main
            return True
        if row == "kind":
            self.drawn.append((what, [], []))
            self.deeds = None
            return True
        return len(self.drawn) > 0 and self.take_in_kind(row, what)

    def take_deed(self, deed):
        """Takes a deed in, of main or of the last rule."""
        if self.deeds is None:
            return False
        self.deeds.append(deed)
        return True

    def take_in_kind(self, row, what):
        """Takes a place or a rule of the last kind in; places stand ahead of rules."""
        name, places, rules = self.drawn[-1]
        if row == "place":
            places.append(what)
            return len(rules) == 0
        self.deeds = []
        rules.append((what, self.deeds))
        return True

    def finished(self):
        """What was read, tuples all through."""
        kinds = [(name, tuple(places), rules_in(rules)) for name, places, rules in self.drawn]
        return (tuple(kinds), tuple(self.main))


def rules_in(rules):
    """A tuple of rules whose deeds were kept as lists."""
    return tuple([(heads, tuple(deeds)) for heads, deeds in rules])


def read_program(text):
    """The program that is so written; NoText of all else."""
    draft = Draft()
    for row, what in rows_read(text, row_read):
        if not draft.take(row, what):
            raise NoText(None)
    if draft.main is None:
        raise NoText(None)
    program = draft.finished()
    try:
        look_at_program(program)
    except NoProgram:
        raise NoText(None) from None
    return program


def read_run(text):
    """The list of steps that is so written; NoText of all else."""
    # No rows at all, where a row without signs would be none.
    if says(text, ""):
        return []
    return rows_read(text, step_read)


def rows_read(text, reader):
    """What each row of a text says; NoText of the first that says nothing by its form."""
    if not isinstance(text, str):
        raise NoText(0)
    told = []
    for number, row in enumerate(text.split("\n")):
        what = reader(row)
        if what is None:
            raise NoText(number)
        told.append(what)
    return told


def show_program(program):
    """The text of a program."""
    look_at_program(program)
    rows = []
    for name, places, rules in program[0]:
        rows.append(f"kind {name}")
        rows.extend([f"place {word} {many}" for word, many in places])
        for heads, deeds in rules:
            rows.append(" ".join(["rule", *[show_head(head) for head in heads]]))
            rows.extend([show_deed(deed) for deed in deeds])
    rows.append("main")
    rows.extend([show_deed(deed) for deed in program[1]])
    return "\n".join(rows)


def show_head(head):
    """A head as a word."""
    place, slots = head
    return place + show_bracket(slots)


def show_bracket(pieces):
    """Slots or operands in brackets."""
    return "(" + ",".join([show_piece(piece) for piece in pieces]) + ")"


def show_piece(piece):
    """An operand or a slot as a word."""
    if piece[0] == "own":
        return "*"
    if piece[0] == "is":
        return "=" + show_written(piece[1])
    return piece[1]


def show_written(worth):
    """A number or a truth as a word."""
    if isinstance(worth, bool):
        return "yes" if worth else "no"
    return str(worth)


def show_deed(deed):
    """A deed as a row."""
    parts = PARTS[deed[0]]
    return "  " + " ".join([deed[0], *[show_part(part, thing) for part, thing in zip(parts, deed[1:])]])


def show_part(part, thing):
    """A part of a deed as a word."""
    if part == "operand":
        return show_piece(thing)
    if part == "given":
        return show_bracket(thing)
    return str(thing)


def show_run(run):
    """The text of a run, a row for each step."""
    return "\n".join([show_step(step) for step in run])


def show_step(step):
    """A step as a row."""
    if step[0] == "go":
        return f"go {step[1]}"
    letters = ",".join([str(number) for number in step[3]])
    return f"meet {step[1]} {step[2]} {letters}"
