"""All ways of greatest worth."""

from rentshare.divide import share_out
from rentshare.errors import TooMany
from rentshare.fair import shares
from rentshare.house import is_way, worth_of

MOST_LISTS = 200


def level_rooms(house):
    told = share_out(house, "worst")
    parts = told[1][0]
    rows = told[1][1]
    had = shares(house, told[0], told[1])
    level = []
    for person in range(house.people()):
        worths = house.worths[person]
        level.append([room for room in range(house.rooms()) if parts * worths[room] - rows[room] == had[person]])
    return level


def product(numbers):
    total = 1
    for number in numbers:
        total = total * number
    return total


# In rising order, as each person's rooms rise.
def all_lists(level):
    lists = [[]]
    for rooms in level:
        longer = []
        for begun in lists:
            longer.extend([begun + [room] for room in rooms])
        lists = longer
    return lists


# Fair prices are fair with each way of greatest worth, so by each of them everybody has a room of their level ones. But
# not each list of such rooms is a way, nor each such way of greatest worth: a dear room may have free beds by it.
def all_ways(house):
    level = level_rooms(house)
    if product([len(rooms) for rooms in level]) > MOST_LISTS:
        raise TooMany("too many lists of rooms to look through")
    ways = [rooms for rooms in all_lists(level) if is_way(house, rooms)]
    most = max([worth_of(house, way) for way in ways])
    return [way for way in ways if worth_of(house, way) == most]
