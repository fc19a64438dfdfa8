"""Aims: which hops there are between people by a way, and what they gain."""

from rentshare.house import open_rooms, worth_of


class Aim:
    def __init__(self, house, way):
        self.house = house
        # A copy, so that the aim stays as it is when the list handed in is changed.
        self.way = list(way)

    def through(self, a, b):
        return []

    def gain(self, a, r, b):
        return 0

    def whole(self):
        return 0

    def price(self, i, level, parts):
        return level


# The room may be open itself; it's told once even so.
def with_open(aim, room):
    return sorted(set(open_rooms(aim.house, aim.way) + [room]))


def own_worth(aim, person):
    return aim.house.worths[person][aim.way[person]]


# A level is a share: b could have a's room, or an open one that costs no more, at a's price at most.
class Worst(Aim):
    def through(self, a, b):
        return with_open(self, self.way[a])

    def gain(self, a, r, b):
        return self.house.worths[b][r] - own_worth(self, a)

    def whole(self):
        return worth_of(self.house, self.way) - self.house.rent

    def price(self, i, level, parts):
        return parts * own_worth(self, i) - level


# A level is a price: a could have b's room, or an open one that costs no more, at b's price at most.
class Even(Aim):
    def through(self, a, b):
        return with_open(self, self.way[b])

    def gain(self, a, r, b):
        return self.house.worths[a][r] - own_worth(self, a)

    def whole(self):
        return self.house.rent

    def price(self, i, level, parts):
        return level
