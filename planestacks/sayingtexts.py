"""Sayings as they are written."""

from planestacks.boards import board_minus
from planestacks.copies import told_anew
from planestacks.errors import NoText
from planestacks.readers import next_token, reader_of, refuse_more, take_one_of, take_token
from planestacks.terms import read_sum, show_term, take_term_step

MOST_SIGNS = 2000
MOST_PREFIXES = 20
COMPARISONS = {"<": (-1,), "=": (0,), ">": (1,), "<=": (-1, 0), ">=": (0, 1), "!=": (-1, 1)}
COMPARISONS_SHOWN = {(-1,): "<", (0,): "=", (1,): ">", (-1, 0): "<=", (0, 1): ">=", (-1, 1): "!="}


def read_comparison(reader):
    read_sum(reader)
    sign = take_one_of(reader, list(COMPARISONS))
    read_sum(reader)
    reader.steps.append(sign)


def read_prefixes(reader):
    """The steps of all of not, some, all that stand ahead of a saying, the last one first."""
    prefixes = []
    while next_token(reader) in ("not", "some", "all"):
        word = take_token(reader)
        if word != "not":
            word += " " + take_one_of(reader, ("x", "y"))
        prefixes.append(word)
    if len(prefixes) > MOST_PREFIXES:
        raise NoText("too many of not, some, all stand one behind the other")
    return prefixes[::-1]


def saying_ended(reader, brackets):
    """Reads on behind a saying, as far as brackets end with it; whether the whole saying has ended.

    Each bracket that is open is told by the steps of what stands ahead of it and by its word, where this is read.
    """
    while brackets != []:
        prefixes, word = brackets.pop()
        if word == "":
            brackets.append((prefixes, take_one_of(reader, ("and", "or"))))
            return False
        take_one_of(reader, ("]",))
        reader.steps.append(word)
        reader.steps.extend(prefixes)
    return True


def read_steps(reader):
    """Reads a whole saying; it doesn't call itself, for sayings may stand deep within one another."""
    brackets, ended = [], False
    while not ended:
        prefixes = read_prefixes(reader)
        if next_token(reader) == "[":
            take_token(reader)
            brackets.append((prefixes, ""))
        else:
            read_comparison(reader)
            reader.steps.extend(prefixes)
            ended = saying_ended(reader, brackets)


def take_step(step, waiting):
    """Does a step of a saying to the boards and sayings that wait, the last one last."""
    if step in COMPARISONS:
        last = waiting.pop()
        first = waiting.pop()
        waiting.append(("is", board_minus(first, last), told_anew(COMPARISONS[step])))
    elif step in ("and", "or"):
        last = waiting.pop()
        first = waiting.pop()
        waiting.append((step, first, last))
    elif step == "not":
        waiting.append(("not", waiting.pop()))
    elif step.startswith("some ") or step.startswith("all "):
        word, letter = step.split(" ")
        waiting.append((word, letter, waiting.pop()))
    else:
        take_term_step(step, waiting)


def read_saying(text):
    reader = reader_of(text, MOST_SIGNS)
    read_steps(reader)
    refuse_more(reader)
    waiting = []
    for step in reader.steps:
        take_step(step, waiting)
    return waiting[0]


def pieces_of(S):
    """What a saying is shown as: texts, and the sayings in it."""
    if S[0] == "is":
        return [f"{show_term(S[1])} {COMPARISONS_SHOWN[S[2]]} 0"]
    if S[0] == "not":
        return ["not ", S[1]]
    if S[0] in ("and", "or"):
        return ["[", S[1], f" {S[0]} ", S[2], "]"]
    return [f"{S[0]} {S[1]} ", S[2]]


def show_saying(S):
    text, waiting = "", [S]
    while waiting != []:
        piece = waiting.pop()
        if isinstance(piece, str):
            text += piece
        else:
            waiting.extend(pieces_of(piece)[::-1])
    return text
