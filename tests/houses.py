"""What several test files need: made-up houses, and ways reckoned without the program's help."""

import itertools
from fractions import Fraction
from math import gcd

from rentshare.aims import Worst
from rentshare.house import House

GREAT = 10 ** 40 - 1

# A sheet that asks nothing yet.
FLAT = """room big 2 east
room small 1 west
person ann
person bob
person cid
rent 900.00
worth ann big 300.00
worth ann small 460.00
worth bob big 250.00
worth bob small 400.00
worth cid big 350.00
worth cid small 300.00"""


class Numbers:
    """A row of numbers that looks like chance and is the same each time."""

    def __init__(self, seed):
        self.state = seed

    def below(self, count):
        # Several steps make one number, so that it may have 40 figures.
        number = 0
        for step in range(6):
            self.state = (self.state * 6364136223846793005 + 1442695040888963407) % 2 ** 64
            number = number * 2 ** 32 + self.state // 2 ** 32
        return number % count

    def between(self, least, most):
        return least + self.below(most - least + 1)

    def mixed(self, things):
        left = list(things)
        return [left.pop(self.below(len(left))) for thing in things]


def made_house(numbers, beds, people, most, rent=0):
    return House(beds, [[numbers.between(-most, most) for room in beds] for person in range(people)], rent)


def same_worths(beds, people, amount=5):
    return House(beds, [[amount] * len(beds) for person in range(people)], 100)


def made_beds(numbers, rooms, people):
    while True:
        beds = [numbers.between(1, 4) for room in range(rooms)]
        if sum(beds) >= people:
            return beds


def values(house):
    return (list(house.beds), [list(row) for row in house.worths], house.rent)


def fits(house, way):
    rooms = range(len(house.beds))
    if len(way) != len(house.worths) or not all(room in rooms for room in way):
        return False
    return all(way.count(room) <= house.beds[room] for room in rooms)


def every_way(house):
    lists = itertools.product(range(len(house.beds)), repeat=len(house.worths))
    return [list(way) for way in lists if fits(house, list(way))]


def worth(house, way):
    return sum(row[room] for row, room in zip(house.worths, way))


def greatest_both(house, old):
    """The greatest worth and how many people at most have their old room by it; for each number of beds left in each
    room the greatest so far, person by person."""
    best = {tuple(house.beds): (0, 0)}
    for row, had in zip(house.worths, old):
        further = {}
        for left, so_far in best.items():
            for room, beds in enumerate(left):
                if beds > 0:
                    rest = left[:room] + (beds - 1,) + left[room + 1:]
                    both = (so_far[0] + row[room], so_far[1] + (room == had))
                    further[rest] = max(both, further.get(rest, both))
        best = further
    return max(best.values())


def greatest_worth(house):
    return greatest_both(house, [None for row in house.worths])[0]


def best_ways(house):
    ways = every_way(house)
    most = max(worth(house, way) for way in ways)
    return [way for way in ways if worth(house, way) == most]


def lists_in(told):
    """All lists in what is told, also those within lists and tuples."""
    found = [told] if type(told) is list else []
    if type(told) in (list, tuple):
        for thing in told:
            found = found + lists_in(thing)
    return found


def all_unlike(told):
    found = lists_in(told)
    return len({id(one) for one in found}) == len(found)


def planted(numbers, beds, people, size):
    """A house and the only way of greatest worth in it: rooms have prices, open ones 0; all but the own is worse."""
    way = numbers.mixed([room for room, count in enumerate(beds) for bed in range(count)])[:people]
    prices = [numbers.between(0, size) if way.count(room) == beds[room] else 0 for room in range(len(beds))]
    worths = []
    for person in range(people):
        base = numbers.between(-size, size)
        row = [base + price - numbers.between(1, max(1, size // 4)) for price in prices]
        row[way[person]] = base + prices[way[person]]
        worths.append(row)
    return House(beds, worths, numbers.between(-size, size)), way


def hops(aim):
    """All hops, by the words of point 12, with their gains."""
    house = aim.house
    way = aim.way
    rooms = range(len(house.beds))
    found = {}
    for a, b in itertools.permutations(range(len(way)), 2):
        for r in rooms:
            own = way[a] if isinstance(aim, Worst) else way[b]
            if r == own or way.count(r) < house.beds[r]:
                asked = b if isinstance(aim, Worst) else a
                found[(a, r, b)] = house.worths[asked][r] - house.worths[a][way[a]]
    return found


def gain_of(aim, chain, person):
    """The gain of a chain to the person, reckoned without the program; None where it's none."""
    known = hops(aim)
    if not all(hop in known for hop in chain):
        return None
    ends = [hop[2] for hop in chain]
    begins = [hop[0] for hop in chain]
    if chain and (ends[-1] != person or begins[1:] != ends[:-1]):
        return None
    return sum(known[hop] for hop in chain)


def share_list(house, way, prices):
    return [row[room] - Fraction(prices[1][room], prices[0]) for row, room in zip(house.worths, way)]


def is_fair(house, way, prices):
    """By the words of point 10."""
    parts, rows = prices
    if sum(rows[room] for room in way) != parts * house.rent:
        return False
    for row, own in zip(house.worths, way):
        if any(parts * row[room] - rows[room] > parts * row[own] - rows[own] for room in range(len(rows))):
            return False
    cheapest = min(rows[room] for room in way)
    return all(rows[room] <= cheapest for room in range(len(rows)) if way.count(room) < house.beds[room])


def drawn_prices(house, way, reach):
    """All fair prices by which the rooms lie whole hundredths apart, each at most that many from the first one."""
    people = len(way)
    for others in itertools.product(range(-reach, reach + 1), repeat=len(house.beds) - 1):
        costs = (0,) + others
        lacking = house.rent - sum(costs[room] for room in way)
        prices = (people, [people * cost + lacking for cost in costs])
        if is_fair(house, way, prices):
            yield prices


def in_lowest_terms(prices):
    return prices[0] > 0 and gcd(prices[0], *prices[1]) == 1


def empty_ones_cost_least(way, prices):
    rows = prices[1]
    cheapest = min(rows[room] for room in way)
    return all(rows[room] == cheapest for room in range(len(rows)) if room not in way)


def tied_house(liked, rooms, rent=0):
    """Single beds; each person likes as many rooms as told for them, the first ones, all just as much."""
    return House([1] * rooms, [[10 if room < count else 0 for room in range(rooms)] for count in liked], rent)
