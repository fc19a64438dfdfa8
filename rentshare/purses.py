"""Fair prices that keep everybody's purse, and papers that show that none are better or that there are none."""

from rentshare.aims import Worst, own_worth
from rentshare.chains import carry, chain_gain, greatest
from rentshare.divide import prices_at
from rentshare.fair import shares
from rentshare.ratios import less
from rentshare.ways import all_ways


# What is left to the person, at the least, where their purse is kept.
def purse_share(aim, purses, person):
    if purses[person] is None:
        return None
    return own_worth(aim, person) - purses[person]


def beginning(chain, person):
    return person if len(chain) == 0 else chain[0][0]


def row_bound(house, way, purses, row, i):
    aim = Worst(house, way)
    chain = row[-1]
    gain = chain_gain(aim, chain, i)
    if row[0] == "free" or gain is None:
        return gain
    # A chain to the person begins with somebody who is there, so purses are asked for nobody else.
    if row[1] != beginning(chain, i) or purses[row[1]] is None:
        return None
    return purse_share(aim, purses, row[1]) + gain


def purse_row(chain, person):
    return ("purse", beginning(chain, person), chain)


# The bound of the least share by a paper in which the loose ones have the free rows.
def free_bound(aim, gains, held, loose):
    bounds = [gains[person] if person in loose else held[person] for person in range(len(gains))]
    return (aim.whole() - sum(bounds), len(loose))


# Those by whose free rows the bound is least. For each number of them these are the ones whom the purses lift least
# above what the chains alone ask for.
def loose_ones(aim, gains, held):
    order = sorted(range(len(gains)), key=lambda person: held[person] - gains[person])
    loose = order[:1]
    for count in range(2, len(order) + 1):
        if less(free_bound(aim, gains, held, order[:count]), free_bound(aim, gains, held, loose)):
            loose = order[:count]
    return loose


# As the bound is the least one, nobody's row asks for less than the other one that they might have; so each level is
# just what the row asks for.
def kept_by(aim, free, held, loose):
    least = free_bound(aim, free[0], held[0], loose)
    levels = []
    paper = []
    for person in range(aim.house.people()):
        if person in loose:
            levels.append(least[0] + least[1] * free[0][person])
            paper.append(("free", free[1][person]))
        else:
            levels.append(least[1] * held[0][person])
            paper.append(purse_row(held[1][person], person))
    return ("kept", prices_at(aim, levels, least[1]), paper)


def within(house, way, purses):
    aim = Worst(house, way)
    people = house.people()
    free = greatest(aim)
    # There are hops from each person to each other one, so a single purse holds everybody, and without one nobody is.
    held = carry(aim, [purse_share(aim, purses, person) for person in range(people)])
    if None in held[0]:
        return kept_by(aim, free, held, list(range(people)))
    if sum(held[0]) > aim.whole():
        return ("none", [purse_row(held[1][person], person) for person in range(people)])
    return kept_by(aim, free, held, loose_ones(aim, free[0], held[0]))


def least_share(house, way, answer):
    prices = answer[1]
    return (min(shares(house, way, prices)), prices[0])


def within_any(house, purses):
    ways = all_ways(house)
    answers = [within(house, way, purses) for way in ways]
    places = [place for place in range(len(ways)) if answers[place][0] == "kept"]
    if len(places) == 0:
        return ("none", [(ways[place], answers[place][1]) for place in range(len(ways))])
    best = places[0]
    for place in places:
        if less(least_share(house, ways[best], answers[best]), least_share(house, ways[place], answers[place])):
            best = place
    return ("kept", ways[best], answers[best][1], answers[best][2])
