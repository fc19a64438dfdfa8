"""Sheets, read to lists of orders."""

from rentshare.amounts import read_amount
from rentshare.errors import NoAmount, NoLine

LETTERS = "abcdefghijklmnopqrstuvwxyz"
LONGEST_NAME = 8
BEDS = ("1", "2", "3", "4")


# Each reader of a word tells None for one that it doesn't take: only the sheet knows the row's place, which the refusal
# has to tell.
def name_in(word):
    if 1 <= len(word) <= LONGEST_NAME and all([sign in LETTERS for sign in word]):
        return word
    return None


def beds_in(word):
    return int(word) if word in BEDS else None


def amount_in(word):
    try:
        return read_amount(word)
    except NoAmount:
        return None


READERS = {"name": name_in, "beds": beds_in, "amount": amount_in}

# What stands behind an order's first word.
FORMS = {
    "room": ("name", "beds", "name"),
    "person": ("name",),
    "rent": ("amount",),
    "worth": ("name", "name", "amount"),
    "purse": ("name", "amount"),
    "free": ("name",),
    "near": ("name", "name"),
    "leave": ("name",),
    "share": (),
    "even": (),
    "within": (),
    "close": (),
}


def read_word(kind, word):
    reader = READERS[kind]
    return reader(word)


# None where the row is no order.
def read_row(row):
    # At each single blank, so that a blank too many leaves an empty word, which no form has.
    words = row.split(" ")
    kinds = FORMS.get(words[0])
    if kinds is None or len(words) != 1 + len(kinds):
        return None
    told = [read_word(kinds[place], words[1 + place]) for place in range(len(kinds))]
    if None in told or (words[0] == "near" and told[0] == told[1]):
        return None
    return tuple(words[:1] + told)


def read_sheet(text):
    orders = []
    # Not splitlines, which takes other signs than the line feed for a row's end too.
    rows = text.split("\n")
    for place in range(len(rows)):
        if rows[place] != "":
            order = read_row(rows[place])
            if order is None:
                raise NoLine(place + 1)
            orders.append(order)
    return orders
