"""Ways of greatest worth by which people stay where they were."""

from rentshare.best import best_way
from rentshare.house import House


# One staying makes the difference of one, and all together less than one hundredth of worth: so no worth is given up
# for it, and among ways of one worth the staying decides.
def weighed(house, old, person):
    worths = house.worths[person]
    scale = house.people() + 1
    return [worths[room] * scale + (1 if old[person] == room else 0) for room in range(house.rooms())]


def kept_way(house, old):
    worths = [weighed(house, old, person) for person in range(house.people())]
    return best_way(House(house.beds, worths, house.rent))
