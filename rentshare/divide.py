"""The best prices: for the worst off, or the most even ones."""

from rentshare.aims import Even, Worst
from rentshare.best import best_way
from rentshare.chains import bound, greatest
from rentshare.ratios import lowest


# People in one room pay the same, so the price that the first one pays is the room's.
def room_price(aim, costs, room):
    if room in aim.way:
        return costs[aim.way.index(room)]
    return min(costs)


def prices_at(aim, levels, parts):
    costs = [aim.price(person, levels[person], parts) for person in range(len(levels))]
    return lowest(parts, [room_price(aim, costs, room) for room in range(aim.house.rooms())])


def divide(aim):
    told = greatest(aim)
    least = bound(aim, told[1])
    levels = [least[0] + least[1] * gain for gain in told[0]]
    return (prices_at(aim, levels, least[1]), told[1])


def share_out(house, word):
    way = best_way(house)
    aim = Worst(house, way) if word == "worst" else Even(house, way)
    told = divide(aim)
    return (way, told[0], told[1])
