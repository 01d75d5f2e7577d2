"""The desk: answers rows of text, and keeps the claim and paper of its last answer."""

from planestacks.checker import holds
from planestacks.errors import NoLine, NoRow, NoText
from planestacks.papers import paper_parted, paper_points, paper_region, paper_roots, paper_settled, paper_where
from planestacks.placetexts import show_height, show_place, show_region
from planestacks.sayings import LETTERS
from planestacks.sayingtexts import read_saying
from planestacks.terms import read_term


def read_letter(text):
    if text not in LETTERS:
        raise NoText("this is no letter")
    return text


def answer_settle(parts):
    claim, paper = paper_settled(read_saying(parts[0]))
    return (claim[0], claim, paper)


def answer_where(parts):
    claim, paper = paper_where(read_saying(parts[0]))
    if claim[0] == "nowhere":
        return (claim[0], claim, paper)
    word, S, X, Y = claim
    return (f"{show_place(X)}; {show_height(Y)}", claim, paper)


def answer_same(parts):
    S = read_saying(parts[0])
    claim, paper = paper_parted(S, read_saying(parts[1]))
    return (claim[0], claim, paper)


def answer_points(parts):
    f = read_term(parts[0])
    claim, paper = paper_points(f, read_term(parts[1]))
    return (claim[0] if claim[0] == "endless" else str(len(claim[3])), claim, paper)


def answer_region(parts):
    letter = read_letter(parts[0])
    claim, paper = paper_region(read_saying(parts[1]), letter)
    return (show_region(claim[3], letter), claim, paper)


def answer_roots(parts):
    board = read_term(parts[0])
    if len(board) != 1:
        raise NoRow("this term has y in it, or is 0")
    claim, paper = paper_roots(board[0])
    places = [show_place(place) for place in claim[2]]
    return ("; ".join(places) if places != [] else "none", claim, paper)


PARTS = {"settle": 1, "where": 1, "same": 2, "points": 2, "region": 2, "roots": 1, "paper": 0}
# What answers each word but paper with a text, a claim and its paper.
ANSWERS = {
    "settle": answer_settle, "where": answer_where, "same": answer_same, "points": answer_points,
    "region": answer_region, "roots": answer_roots}


def parts_of_row(row):
    """The word of a row and the parts behind it; none where no blank stands there."""
    word, blank, rest = row.partition(" ")
    return (word, rest.split("; ") if blank == " " else [])


def refuse_wrong_row(word, parts):
    if word not in PARTS:
        raise NoLine("the desk does not know this word")
    if len(parts) != PARTS[word]:
        raise NoLine("this word goes with another number of parts")


class Desk:

    def __init__(self):
        self.told = None

    def say(self, row):
        if not isinstance(row, str):
            raise NoLine("this is no text")
        word, parts = parts_of_row(row)
        refuse_wrong_row(word, parts)
        if word == "paper":
            return self.verdict()
        answers = ANSWERS[word]
        answer, claim, paper = answers(parts)
        self.told = (claim, paper)
        return answer

    def verdict(self):
        """What the checker says of the last answer."""
        if self.told is None:
            return "none"
        claim, paper = self.told
        return "holds" if holds(claim, paper) else "no"
