"""A desk: a runner that is told rows of words, and tells texts."""

from waitedmeets.errors import NoDesk, NoLine
from waitedmeets.forms import is_figures
from waitedmeets.runner import Runner
from waitedmeets.texts import read_program, show_run, show_written

PROGRAM = "program "
MOST_FIGURES_TOLD = 4

# How many numbers stand behind the first word of a row.
NUMBERS = {"go": 1, "run": 1, "ready": 0, "heap": 1, "state": 1, "notes": 0, "faults": 0, "steps": 0}


class Desk:
    """Keeps a runner, None at first."""

    def __init__(self):
        self.runner = None

    def say(self, row):
        """What is told of a row; NoLine of what is none, then NoDesk where a runner is wanted and none is kept."""
        if not isinstance(row, str) or "\n" in row:
            raise NoLine("no text of one row")
        if row.startswith(PROGRAM):
            self.runner = Runner(read_program(row.removeprefix(PROGRAM).replace("; ", "\n")))
            return "ok"
        first, *rest = row.split(" ")
        if not is_line(first, rest):
            raise NoLine("no row that a desk is told")
        if self.runner is None:
            raise NoDesk("no program was told yet")
        saying = SAYINGS[first]
        return saying(self.runner, [int(number) for number in rest])


def is_line(first, rest):
    """Whether these are the words of a row, that of a program left aside."""
    if first not in NUMBERS or len(rest) != NUMBERS[first]:
        return False
    return all([is_figures(number, MOST_FIGURES_TOLD) for number in rest])


def say_go(runner, numbers):
    """A body goes."""
    runner.go(numbers[0])
    return "ok"


def say_run(runner, numbers):
    """The least body that can go goes, again and again."""
    many = 0
    while many < numbers[0] and not runner.is_over():
        runner.go(runner.ready()[0])
        many += 1
    return str(many)


def say_ready(runner, numbers):
    """The bodies that can go."""
    return joined([str(body) for body in runner.ready()])


def say_heap(runner, numbers):
    """The letters that lie at a lot."""
    return joined([f"{letter[0]}:{letter[1]}" for letter in runner.heap(numbers[0])])


def say_state(runner, numbers):
    """The state of a lot's machine."""
    state = runner.state(numbers[0])
    return "-" if state is None else str(state)


def say_notes(runner, numbers):
    """The notes."""
    return joined([show_worth(worth) for worth in runner.notes()])


def say_faults(runner, numbers):
    """The faults."""
    return joined([f"{body}:{word}" for body, word in runner.faults()])


def say_steps(runner, numbers):
    """The run."""
    text = show_run(runner.run()).replace("\n", "; ")
    return "-" if text == "" else text


SAYINGS = {
    "go": say_go,
    "run": say_run,
    "ready": say_ready,
    "heap": say_heap,
    "state": say_state,
    "notes": say_notes,
    "faults": say_faults,
    "steps": say_steps,
}


def joined(words):
    """Words with blanks between; a stroke of none."""
    if len(words) == 0:
        return "-"
    return " ".join(words)


def show_worth(worth):
    """A worth as a word."""
    if isinstance(worth, tuple):
        return ".".join([str(piece) for piece in worth])
    return show_written(worth)
