"""Terms: boards as they are written."""

from planestacks.boards import board_minus, board_plus, board_times
from planestacks.errors import NoText
from planestacks.readers import (
    FIGURES, is_number, next_token, reader_of, refuse_more, take_one_of, take_token)

MOST_SIGNS = 1000
MOST_MINUSES = 20


def read_sum(reader):
    read_product(reader)
    while next_token(reader) in ("+", "-"):
        sign = take_token(reader)
        read_product(reader)
        reader.steps.append(sign)


def read_product(reader):
    read_factor(reader)
    while next_token(reader) == "*":
        take_token(reader)
        read_factor(reader)
        reader.steps.append("*")


def read_factor(reader):
    minuses = 0
    while next_token(reader) == "-":
        take_token(reader)
        minuses += 1
    if minuses > MOST_MINUSES:
        raise NoText("too many minuses stand ahead of one atom")
    read_power(reader)
    if minuses & 1:
        reader.steps.append("minus")


def read_power(reader):
    read_atom(reader)
    if next_token(reader) == "^":
        take_token(reader)
        reader.steps.append("^" + take_one_of(reader, list(FIGURES)))


def read_atom(reader):
    token = take_token(reader)
    if token == "(":
        read_sum(reader)
        take_one_of(reader, (")",))
    elif is_number(token) or token in ("x", "y"):
        reader.steps.append(token)
    else:
        raise NoText("a number, a letter or a bracket should stand here")


def atom_of(token):
    """The board of a number or a letter."""
    if token == "x":
        return ((0, 1),)
    if token == "y":
        return ((), (1,))
    number = int(token)
    return ((number,),) if number != 0 else ()


def power_of_board(f, many):
    power = ((1,),)
    for k in range(many):
        power = board_times(power, f)
    return power


def take_term_step(step, boards):
    """Does a step of a term to the boards that wait, the last one last."""
    if step in ("+", "-", "*"):
        last = boards.pop()
        first = boards.pop()
        if step == "*":
            boards.append(board_times(first, last))
        else:
            boards.append(board_plus(first, last) if step == "+" else board_minus(first, last))
    elif step == "minus":
        boards.append(board_minus((), boards.pop()))
    elif step[0] == "^":
        boards.append(power_of_board(boards.pop(), int(step[1])))
    else:
        boards.append(atom_of(step))


def read_term(text):
    reader = reader_of(text, MOST_SIGNS)
    read_sum(reader)
    refuse_more(reader)
    boards = []
    for step in reader.steps:
        take_term_step(step, boards)
    return boards[0]


def letters_shown(x_power, y_power):
    """The factors of a product but its number."""
    shown = []
    for letter, power in (("x", x_power), ("y", y_power)):
        if power == 1:
            shown.append(letter)
        elif power > 1:
            shown.append(f"{letter}^{power}")
    return shown


def product_shown(size, x_power, y_power):
    letters = letters_shown(x_power, y_power)
    if size != 1 or letters == []:
        letters = [str(size)] + letters
    return "*".join(letters)


def products_of(board):
    """The products (number, power of x, power of y), first the greatest powers of y, then of x."""
    products = []
    for y_power in range(len(board) - 1, -1, -1):
        row = board[y_power]
        for x_power in range(len(row) - 1, -1, -1):
            if row[x_power] != 0:
                products.append((row[x_power], x_power, y_power))
    return products


def show_term(board):
    text = ""
    for number, x_power, y_power in products_of(board):
        if text == "":
            text = "-" if number < 0 else ""
        else:
            text += " - " if number < 0 else " + "
        text += product_shown(abs(number), x_power, y_power)
    return text if text != "" else "0"
