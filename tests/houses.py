"""What several test files need: made-up houses, and ways reckoned without the program's help."""

import itertools

from rentshare.house import House

GREAT = 10 ** 40 - 1


class Numbers:
    """A row of numbers that looks like chance and is the same each time."""

    def __init__(self, seed):
        self.state = seed

    def below(self, count):
        # Several steps make one number, so that it may have 40 figures.
        number = 0
        for step in range(6):
            self.state = (self.state * 6364136223846793005 + 1442695040888963407) % 2 ** 64
            number = number * 2 ** 32 + self.state // 2 ** 32
        return number % count

    def between(self, least, most):
        return least + self.below(most - least + 1)

    def mixed(self, things):
        left = list(things)
        return [left.pop(self.below(len(left))) for thing in things]


def made_house(numbers, beds, people, most, rent=0):
    return House(beds, [[numbers.between(-most, most) for room in beds] for person in range(people)], rent)


def made_beds(numbers, rooms, people):
    while True:
        beds = [numbers.between(1, 4) for room in range(rooms)]
        if sum(beds) >= people:
            return beds


def values(house):
    return (list(house.beds), [list(row) for row in house.worths], house.rent)


def fits(house, way):
    rooms = range(len(house.beds))
    if len(way) != len(house.worths) or not all(room in rooms for room in way):
        return False
    return all(way.count(room) <= house.beds[room] for room in rooms)


def every_way(house):
    lists = itertools.product(range(len(house.beds)), repeat=len(house.worths))
    return [list(way) for way in lists if fits(house, list(way))]


def worth(house, way):
    return sum(row[room] for row, room in zip(house.worths, way))


def greatest_worth(house):
    """For each number of beds left in each room the greatest worth so far, person by person."""
    best = {tuple(house.beds): 0}
    for row in house.worths:
        further = {}
        for left, so_far in best.items():
            for room, beds in enumerate(left):
                if beds > 0:
                    rest = left[:room] + (beds - 1,) + left[room + 1:]
                    further[rest] = max(so_far + row[room], further.get(rest, so_far + row[room]))
        best = further
    return max(best.values())


def best_ways(house):
    ways = every_way(house)
    most = max(worth(house, way) for way in ways)
    return [way for way in ways if worth(house, way) == most]


def lists_in(told):
    """All lists in what is told, also those within lists and tuples."""
    found = [told] if type(told) is list else []
    if type(told) in (list, tuple):
        for thing in told:
            found = found + lists_in(thing)
    return found


def all_unlike(told):
    found = lists_in(told)
    return len({id(one) for one in found}) == len(found)


def planted(numbers, beds, people, size):
    """A house and the only way of greatest worth in it: rooms have prices, open ones 0, and all but the own is worse."""
    way = numbers.mixed([room for room, count in enumerate(beds) for bed in range(count)])[:people]
    prices = [numbers.between(0, size) if way.count(room) == beds[room] else 0 for room in range(len(beds))]
    worths = []
    for person in range(people):
        base = numbers.between(-size, size)
        row = [base + price - numbers.between(1, max(1, size // 4)) for price in prices]
        row[way[person]] = base + prices[way[person]]
        worths.append(row)
    return House(beds, worths, numbers.between(-size, size)), way
