"""What people pay, the shares that they have, and where prices aren't fair."""

from rentshare.house import lying, open_rooms


def paid(house, way, prices):
    return [prices[1][room] for room in way]


def shares(house, way, prices):
    costs = paid(house, way, prices)
    return [prices[0] * house.worths[person][way[person]] - costs[person] for person in range(house.people())]


def find_envy(house, way, prices):
    had = shares(house, way, prices)
    for person in range(house.people()):
        for room in range(house.rooms()):
            if prices[0] * house.worths[person][room] - prices[1][room] > had[person]:
                return ("envy", person, room)
    return None


def find_dear_open(house, way, prices):
    rows = prices[1]
    counts = lying(house, way)
    for room in open_rooms(house, way):
        for other in range(house.rooms()):
            if counts[other] > 0 and rows[room] > rows[other]:
                return ("open", room, other)
    return None


def breach(house, way, prices):
    if sum(paid(house, way, prices)) != prices[0] * house.rent:
        return ("sum",)
    envy = find_envy(house, way, prices)
    if envy is not None:
        return envy
    return find_dear_open(house, way, prices)
