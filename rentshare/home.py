"""What a sheet's orders have told so far, and what they have given."""

from rentshare.house import House


class Room:
    def __init__(self, beds, wing):
        self.beds = beds
        self.wing = wing


class Guest:
    def __init__(self):
        # By the rooms' names, those alone that were told.
        self.worths = {}
        self.purse = None
        # The number of a room: rooms stay, so it goes on to be the same room's.
        self.given = None


class Home:
    def __init__(self):
        self.rent = 0
        # By their names, in the order in which they came.
        self.chambers = {}
        self.guests = {}
        # By names, as people's numbers change when somebody leaves.
        self.pairs = []


def take_room(home, order):
    home.chambers[order[1]] = Room(order[2], order[3])


def take_person(home, order):
    home.guests[order[1]] = Guest()


def take_rent(home, order):
    home.rent = order[1]


def take_worth(home, order):
    guest = home.guests[order[1]]
    guest.worths[order[2]] = order[3]


def take_purse(home, order):
    guest = home.guests[order[1]]
    guest.purse = order[2]


def take_free(home, order):
    guest = home.guests[order[1]]
    guest.purse = None


def take_near(home, order):
    # In one order, so that the pair is the same one where it's told the other way round.
    pair = tuple(sorted(order[1:]))
    if pair not in home.pairs:
        home.pairs.append(pair)


def take_leave(home, order):
    home.guests.pop(order[1])
    home.pairs = [pair for pair in home.pairs if order[1] not in pair]


TAKERS = {
    "room": take_room,
    "person": take_person,
    "rent": take_rent,
    "worth": take_worth,
    "purse": take_purse,
    "free": take_free,
    "near": take_near,
    "leave": take_leave,
}


# For an order that can be done.
def take(home, order):
    taker = TAKERS[order[0]]
    taker(home, order)


def beds_of(home):
    return [room.beds for room in home.chambers.values()]


def wings_of(home):
    return [room.wing for room in home.chambers.values()]


def worths_of(home, guest):
    return [guest.worths.get(name, 0) for name in home.chambers]


def house_of(home):
    return House(beds_of(home), [worths_of(home, guest) for guest in home.guests.values()], home.rent)


def purses_of(home):
    return [guest.purse for guest in home.guests.values()]


def pairs_of(home):
    people = list(home.guests)
    return [(people.index(pair[0]), people.index(pair[1])) for pair in home.pairs]


def rooms_given(home):
    return [guest.given for guest in home.guests.values()]


def give(home, way):
    guests = list(home.guests.values())
    for person in range(len(way)):
        guest = guests[person]
        guest.given = way[person]
