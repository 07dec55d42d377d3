"""Single rows of texts: what each says by its form alone, None of what is none.

Whether numbers fit, whether what is named is there, and where a row stands is not asked here.
"""

from waitedmeets.deeds import PARTS
from waitedmeets.worths import WORDS, is_word

MOST_FIGURES = 60


def is_figures(text, most):
    """Whether it is one to so many figures, without a nought ahead but in 0 itself."""
    if not 1 <= len(text) <= most or not text.isascii() or not text.isdigit():
        return False
    return text == "0" or text[0] != "0"


def number_read(text):
    """A number without a sign."""
    if is_figures(text, MOST_FIGURES):
        return int(text)
    return None


def word_read(text):
    """A word."""
    if is_word(text):
        return text
    return None


def written_read(text):
    """The operand or slot of a worth; its text stands behind a sign of its own."""
    worth = text.removeprefix("=")
    if worth == text:
        return None
    if worth in ("yes", "no"):
        return ("is", worth == "yes")
    figures = worth.removeprefix("-")
    if not is_figures(figures, MOST_FIGURES) or worth == "-0":
        return None
    return ("is", int(worth))


def slot_read(text):
    """A slot of a head."""
    if is_word(text):
        return ("as", text)
    return written_read(text)


def operand_read(text):
    """An operand."""
    if text == "*":
        return ("own",)
    if is_word(text):
        return ("of", text)
    return written_read(text)


def bracket_read(text, piece_read):
    """A tuple of what stands between brackets, each piece read by that function."""
    if len(text) < 2 or text[0] != "(" or text[-1] != ")":
        return None
    if text == "()":
        return ()
    return all_read([piece_read(piece) for piece in text[1:-1].split(",")])


def all_read(pieces):
    """A tuple of pieces, None where one of them is None."""
    if any([piece is None for piece in pieces]):
        return None
    return tuple(pieces)


def given_read(text):
    """What is given to a letter."""
    return bracket_read(text, operand_read)


def reckoning_read(text):
    """The word of a deed of two worths."""
    if text in WORDS:
        return text
    return None


def head_read(text):
    """A head of a rule."""
    at = text.find("(")
    if at == -1:
        return None
    return all_read([word_read(text[:at]), bracket_read(text[at:], slot_read)])


READERS = {
    "name": word_read,
    "own place": word_read,
    "head": word_read,
    "kind": word_read,
    "word": reckoning_read,
    "operand": operand_read,
    "given": given_read,
    "many": number_read,
}


def part_read(part, text):
    """A part of a deed."""
    reader = READERS[part]
    return reader(text)


def deed_read(words):
    """A deed by its words."""
    if words[0] not in PARTS:
        return None
    parts = PARTS[words[0]]
    if len(words) != 1 + len(parts):
        return None
    return all_read([words[0], *[part_read(part, text) for part, text in zip(parts, words[1:])]])


def row_read(row):
    """A row of a program: a tuple of which row it is, and what it says."""
    if row.startswith("  "):
        return all_read(["deed", deed_read(row[2:].split(" "))])
    first, *rest = row.split(" ")
    if first == "main" and len(rest) == 0:
        return ("main", ())
    if first == "kind" and len(rest) == 1:
        return all_read(["kind", word_read(rest[0])])
    if first == "place" and len(rest) == 2:
        return all_read(["place", all_read([word_read(rest[0]), number_read(rest[1])])])
    if first == "rule" and len(rest) > 0:
        return all_read(["rule", all_read([head_read(text) for text in rest])])
    return None


def step_read(row):
    """A row of a run: a step."""
    first, *rest = row.split(" ")
    if first == "go" and len(rest) == 1:
        return all_read(["go", number_read(rest[0])])
    if first == "meet" and len(rest) == 3:
        letters = all_read([number_read(text) for text in rest[2].split(",")])
        return all_read(["meet", number_read(rest[0]), number_read(rest[1]), letters])
    return None
