"""Amounts and exact shares as texts."""

from rentshare.errors import NoAmount
from rentshare.ratios import lowest

FIGURES = "0123456789"
MOST_AHEAD = 38
BEHIND = 2


def show_amount(number):
    minus = "-" if number < 0 else ""
    # Of the size alone: below nought, // would go down to the next whole hundred.
    whole = abs(number) // 100
    behind = str(abs(number) % 100).zfill(BEHIND)
    return f"{minus}{whole}.{behind}"


def show_share(number, parts):
    whole = show_amount(number // parts)
    rest = number % parts
    if rest == 0:
        return whole
    fraction = lowest(parts, [rest])
    below = fraction[0]
    above = fraction[1][0]
    return f"{whole}+{above}/{below}"


# Not isdigit, which takes figures of other scripts too.
def are_figures(text):
    return all([sign in FIGURES for sign in text])


def has_form(unsigned):
    pieces = unsigned.split(".")
    if len(pieces) != 2 or not are_figures(pieces[0] + pieces[1]):
        return False
    return 1 <= len(pieces[0]) <= MOST_AHEAD and len(pieces[1]) == BEHIND


def read_amount(text):
    minus = text.startswith("-")
    unsigned = text[1:] if minus else text
    if not has_form(unsigned):
        raise NoAmount("not written as an amount")
    size = int(unsigned.replace(".", ""))
    number = -size if minus else size
    # An amount has one writing alone: this leaves out leading noughts and a nought with a minus.
    if show_amount(number) != text:
        raise NoAmount("not written as an amount")
    return number
