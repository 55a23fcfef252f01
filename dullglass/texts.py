"""Shares, glasses, dullings and payoffs as texts, each written in one way only."""

from dullglass.errors import NoText
from dullglass.glasses import FEWEST_STANDS, MOST_STANDS, is_dulling, is_glass, table_of_shares
from dullglass.shares import share

FIGURES = "0123456789"
MOST_FIGURES = 6
MOST_BOTTOM = 999999
MOST_PAYOFF = 1000000
MOST_PAYOFF_FIGURES = 7
MOST_ACTS = 12


def show_share(one):
    top = one[0]
    bottom = one[1]
    return f"{top}" if bottom == 1 else f"{top}/{bottom}"


def show_glass(glass):
    return laid_out([show_row(row, glass[0]) for row in glass[1]])


def show_row(row, bottom):
    return [show_share(share(number, bottom)) for number in row]


def show_payoffs(payoffs):
    return laid_out([[str(number) for number in row] for row in payoffs])


def laid_out(rows):
    return " | ".join([" ".join(row) for row in rows])


def read_glass(text):
    table = read_table(text)
    if not is_glass(table):
        raise NoText("the text writes no glass")
    return table


def read_dulling(text):
    table = read_table(text)
    if not is_dulling(table):
        raise NoText("the text writes no dulling")
    return table


# Whether the rows are as many, as long and come to 1, as they must, is left to who asks.
def read_table(text):
    table = table_of_shares([[read_share(word) for word in row] for row in words_in_rows(text)])
    if table[0] > MOST_BOTTOM:
        raise NoText("the bottom has more than six figures")
    return table


def words_in_rows(text):
    if not isinstance(text, str):
        raise NoText("what is read is a text")
    return [row.split(" ") for row in text.split(" | ")]


def read_share(word):
    parts = word.partition("/")
    top = parts[0]
    bottom = parts[2] if parts[1] == "/" else "1"
    if not is_number(top, MOST_FIGURES) or not is_number(bottom, MOST_FIGURES) or bottom == "0":
        raise NoText("a share is written as a whole number, or as two with a / between, the second one not 0")
    found = share(int(top), int(bottom))
    if show_share(found) != word:
        raise NoText("a share is written in lowest terms, and one with the bottom 1 as its top alone")
    return found


# Asked ahead of int, which reads other signs and writings too.
def is_number(word, most):
    figures = word[1:] if word.startswith("-") else word
    if not is_made_of(figures, FIGURES) or len(figures) > most:
        return False
    return word == "0" or not figures.startswith("0")


def is_made_of(word, letters):
    return word != "" and all([letter in letters for letter in word])


def read_payoffs(text):
    rows = [tuple([read_payoff(word) for word in row]) for row in words_in_rows(text)]
    if not FEWEST_STANDS <= len(rows) <= MOST_STANDS or len(rows[0]) > MOST_ACTS:
        raise NoText("payoffs have two to four rows of one to twelve numbers")
    if not all([len(row) == len(rows[0]) for row in rows]):
        raise NoText("the rows of payoffs are all as long")
    return tuple(rows)


def read_payoff(word):
    if not is_number(word, MOST_PAYOFF_FIGURES) or abs(int(word)) > MOST_PAYOFF:
        raise NoText("a payoff is a whole number from -1000000 to 1000000")
    return int(word)
