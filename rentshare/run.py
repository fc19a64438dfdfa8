"""A sheet's orders, done one behind the other, and their answers."""

from rentshare.aims import Even, Worst
from rentshare.amounts import show_share
from rentshare.divide import divide
from rentshare.errors import TooMany
from rentshare.home import Home, beds_of, give, house_of, pairs_of, purses_of, rooms_given, take, wings_of
from rentshare.keep import kept_way
from rentshare.near import near_count, near_way
from rentshare.purses import within_any
from rentshare.sheet import read_sheet

MOST_THERE = 10

# How many people an order names behind its first word.
PEOPLE_NAMED = {"worth": 1, "purse": 1, "free": 1, "near": 2, "leave": 1}


def name_rooms(home, way):
    names = list(home.chambers)
    return [names[room] for room in way]


def name_lies(home, way):
    return list(zip(home.guests, name_rooms(home, way)))


def name_costs(home, prices):
    names = list(home.chambers)
    return [(names[room], show_share(prices[1][room], prices[0])) for room in range(len(names))]


def name_chain(home, chain):
    people = list(home.guests)
    rooms = list(home.chambers)
    return [(people[hop[0]], rooms[hop[1]], people[hop[2]]) for hop in chain]


def name_row(home, row):
    chain = name_chain(home, row[-1])
    if row[0] == "free":
        return ("free", chain)
    return ("purse", list(home.guests)[row[1]], chain)


def name_paper(home, paper):
    return [name_row(home, row) for row in paper]


def answer_by(home, word, aim):
    told = divide(aim)
    give(home, aim.way)
    chains = [name_chain(home, chain) for chain in told[1]]
    return (word, name_lies(home, aim.way), name_costs(home, told[0]), chains)


def answer_share(home):
    house = house_of(home)
    return answer_by(home, "share", Worst(house, kept_way(house, rooms_given(home))))


def answer_even(home):
    house = house_of(home)
    return answer_by(home, "even", Even(house, kept_way(house, rooms_given(home))))


def answer_close(home):
    house = house_of(home)
    wings = wings_of(home)
    pairs = pairs_of(home)
    way = near_way(house, wings, pairs)
    return answer_by(home, "close", Worst(house, way)) + (near_count(way, wings, pairs),)


def answer_within(home):
    told = within_any(house_of(home), purses_of(home))
    if told[0] == "none":
        return ("none", [(name_rooms(home, one[0]), name_paper(home, one[1])) for one in told[1]])
    give(home, told[1])
    return ("within", name_lies(home, told[1]), name_costs(home, told[2]), name_paper(home, told[3]))


ANSWERERS = {"share": answer_share, "even": answer_even, "within": answer_within, "close": answer_close}


# TooMany comes ahead of anything's being given, so nothing is changed where it's due.
def answer(home, word):
    answerer = ANSWERERS[word]
    try:
        return answerer(home)
    except TooMany:
        return ("refused", "many")


def names_a_stranger(home, order):
    people = order[1:1 + PEOPLE_NAMED.get(order[0], 0)]
    if not all([name in home.guests for name in people]):
        return True
    return order[0] == "worth" and order[2] not in home.chambers


def refuse_new(there, name):
    if name in there:
        return "twice"
    if len(there) >= MOST_THERE:
        return "full"
    return None


# The word of the refusal, or None; all but TooMany can be seen beforehand.
def refusal(home, order):
    if names_a_stranger(home, order):
        return "name"
    if order[0] == "room":
        return refuse_new(home.chambers, order[1])
    if order[0] == "person":
        return refuse_new(home.guests, order[1])
    if order[0] in ANSWERERS and not 1 <= len(home.guests) <= sum(beds_of(home)):
        return "few"
    return None


# None where the order is done without an answer.
def do(home, order):
    word = refusal(home, order)
    if word is not None:
        return ("refused", word)
    if order[0] in ANSWERERS:
        return answer(home, order[0])
    take(home, order)
    return None


def run(text):
    home = Home()
    answers = []
    for order in read_sheet(text):
        told = do(home, order)
        if told is not None:
            answers.append(told)
    return answers
