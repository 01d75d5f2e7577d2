"""Texts cut into tokens: words, letters, numbers and signs, and a reader that goes through them."""

from planestacks.errors import NoText

FIGURES = "0123456789"
DOUBLE_SIGNS = ("<=", ">=", "!=")
WORDS = ("x", "y", "not", "and", "or", "some", "all")
MOST_OPEN = 20


def is_number(token):
    return token != "" and token[0] in FIGURES


def end_of_run(text, start):
    """Where the letters and figures that begin at start end."""
    end = start
    while end < len(text) and text[end].isalnum():
        end += 1
    return end


def refuse_wrong_run(run):
    """Letters and figures that follow one another without a blank are one word, one letter or one number."""
    if run in WORDS:
        return
    if not all([sign in FIGURES for sign in run]) or len(run) > 12 or (run[0] == "0" and run != "0"):
        raise NoText("this is no word, no letter and no number")


def token_at(text, start):
    """The token that begins at start; a sign that stands in no text is one, too, which no reading takes."""
    if text[start].isalnum():
        run = text[start:end_of_run(text, start)]
        refuse_wrong_run(run)
        return run
    return text[start:start + 2] if text[start:start + 2] in DOUBLE_SIGNS else text[start]


def tokens_of(text):
    tokens, at = [], 0
    while at < len(text):
        if text[at] == " ":
            at += 1
        else:
            tokens.append(token_at(text, at))
            at += len(tokens[-1])
    return tokens


def refuse_deep(tokens, opening, closing):
    """Asked ahead of reading, so that no reading goes deeper than is told."""
    many = 0
    for token in tokens:
        many += (token == opening) - (token == closing)
        if many > MOST_OPEN:
            raise NoText("too many brackets are open at once")


class Reader:
    """Tokens, how many of them are read, and the steps that reckon what they mean.

    The steps are reckoned only when the whole text is read: what is none is refused ahead of any reckoning.
    """

    def __init__(self, tokens):
        self.tokens = tokens
        self.done = 0
        self.steps = []


def reader_of(text, most):
    """A reader of a text of at most so many signs."""
    if not isinstance(text, str) or len(text) > most:
        raise NoText("this is no text, or one of too many signs")
    tokens = tokens_of(text)
    refuse_deep(tokens, "(", ")")
    refuse_deep(tokens, "[", "]")
    return Reader(tokens)


def next_token(reader):
    """The token that is read next; an empty text where there is none."""
    return reader.tokens[reader.done] if reader.done < len(reader.tokens) else ""


def take_token(reader):
    token = next_token(reader)
    reader.done += 1
    return token


def take_one_of(reader, tokens):
    token = take_token(reader)
    if token not in tokens:
        raise NoText("something else should stand here")
    return token


def refuse_more(reader):
    if reader.done < len(reader.tokens):
        raise NoText("something stands behind the end")
