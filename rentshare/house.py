"""Houses, and the ways to lie in them."""

from rentshare.errors import TooFew


class House:
    def __init__(self, beds, worths, rent):
        if len(worths) > sum(beds):
            raise TooFew("more people than beds")
        # Copies, so that the house stays as it is when the lists handed in are changed.
        self.beds = list(beds)
        self.worths = [list(row) for row in worths]
        self.rent = rent

    def people(self):
        return len(self.worths)

    def rooms(self):
        return len(self.beds)


def lying(house, way):
    return [way.count(room) for room in range(house.rooms())]


def open_rooms(house, way):
    counts = lying(house, way)
    return [room for room in range(house.rooms()) if counts[room] < house.beds[room]]


def worth_of(house, way):
    return sum([house.worths[person][way[person]] for person in range(house.people())])


def is_way(house, way):
    if len(way) != house.people():
        return False
    if not all([0 <= room < house.rooms() for room in way]):
        return False
    counts = lying(house, way)
    return all([counts[room] <= house.beds[room] for room in range(house.rooms())])
