"""Point 12: hops, and what they gain, by a plain Aim, Worst and Even; points 1 and 3 for them."""

import unittest

from houses import GREAT, Numbers, every_way, made_beds, made_house, values
from rentshare.aims import Aim, Even, Worst
from rentshare.house import House

KINDS = [Aim, Worst, Even]


def with_open_rooms():
    # By OPEN_WAY room 0 is full, rooms 1 and 2 are open and taken, room 3 is empty.
    return House([1, 3, 2, 1], [[11, 12, 13, 14], [21, 22, 23, 24], [31, 32, 33, 34], [41, 42, 43, 44]], 100)


OPEN_WAY = [1, 2, 1, 0]


def without_open_rooms():
    return House([2, 1, 1], [[50, -7, 3], [20, 90, 10], [40, 30, 60], [-5, 15, 25]], 70)


FULL_WAY = [0, 1, 0, 2]


def two_unlike(count):
    return [(a, b) for a in range(count) for b in range(count) if a != b]


def snapshot(aim):
    """All that an Aim tells."""
    people = len(aim.house.worths)
    told = [aim.whole(), list(aim.way)]
    for a, b in two_unlike(people):
        rooms = list(aim.through(a, b))
        told.append((a, b, rooms, [aim.gain(a, r, b) for r in rooms]))
    return told + [aim.price(i, level, parts) for i in range(people) for level in [-5, 0, 8] for parts in [1, 3]]


class Made(unittest.TestCase):
    def test_values(self):
        for kind in KINDS:
            aim = kind(with_open_rooms(), OPEN_WAY)
            self.assertEqual(values(aim.house), values(with_open_rooms()))
            self.assertEqual(aim.way, OPEN_WAY)
            self.assertIs(type(aim.way), list)
            self.assertIsInstance(aim.house, House)

    def test_classes(self):
        self.assertTrue(issubclass(Worst, Aim) and issubclass(Even, Aim))
        self.assertFalse(issubclass(Worst, Even) or issubclass(Even, Worst))

    def test_the_way_is_a_copy(self):
        for kind in KINDS:
            with self.subTest(kind=kind.__name__):
                way = list(OPEN_WAY)
                aim = kind(with_open_rooms(), way)
                way[0] = 3
                way[3] = 3
                way.append(2)
                self.assertEqual(aim.way, OPEN_WAY)
                self.assertEqual(snapshot(aim), snapshot(kind(with_open_rooms(), OPEN_WAY)))

    def test_what_is_handed_in_stays_as_it_was(self):
        for kind in KINDS:
            with self.subTest(kind=kind.__name__):
                house = with_open_rooms()
                way = list(OPEN_WAY)
                snapshot(kind(house, way))
                self.assertEqual(way, OPEN_WAY)
                self.assertEqual(values(house), values(with_open_rooms()))

    def test_the_list_handed_in_is_not_the_aims(self):
        for kind in KINDS:
            way = list(OPEN_WAY)
            one = kind(with_open_rooms(), way)
            other = kind(with_open_rooms(), one.way)
            self.assertIsNot(one.way, way)
            self.assertIsNot(one.way, other.way)
            one.way[0] = 3
            self.assertEqual((way, other.way), (OPEN_WAY, OPEN_WAY))

    def test_aims_of_several_ways_stand_by_themselves(self):
        house = with_open_rooms()
        one = Worst(house, OPEN_WAY)
        before = snapshot(one)
        other = Worst(house, [3, 1, 1, 1])
        snapshot(other)
        self.assertEqual(snapshot(one), before)
        self.assertEqual(other.through(0, 1), [0, 2, 3])


class Plain(unittest.TestCase):
    def test_nothing_by_itself(self):
        for house, way in [(with_open_rooms(), OPEN_WAY), (without_open_rooms(), FULL_WAY)]:
            aim = Aim(house, way)
            self.assertEqual(aim.whole(), 0)
            for a, b in two_unlike(4):
                self.assertEqual(aim.through(a, b), [])
                self.assertIs(type(aim.through(a, b)), list)
                self.assertEqual([aim.gain(a, r, b) for r in range(house.rooms())], [0] * house.rooms())
            for level in [0, 5, -5, 10 ** 45]:
                for parts in [1, 2, 10000]:
                    self.assertEqual([aim.price(i, level, parts) for i in range(4)], [level] * 4)


class ByWorst(unittest.TestCase):
    def test_through_with_open_rooms(self):
        aim = Worst(with_open_rooms(), OPEN_WAY)
        for a, b in two_unlike(4):
            self.assertEqual(aim.through(a, b), [0, 1, 2, 3] if a == 3 else [1, 2, 3], (a, b))

    def test_through_without_open_rooms(self):
        aim = Worst(without_open_rooms(), FULL_WAY)
        for a, b in two_unlike(4):
            self.assertEqual(aim.through(a, b), [FULL_WAY[a]], (a, b))

    def test_through_is_rising(self):
        # The one open room lies between the others.
        aim = Worst(House([1, 1, 1], [[0, 0, 0], [0, 0, 0]], 0), [2, 0])
        self.assertEqual((aim.through(0, 1), aim.through(1, 0)), ([1, 2], [0, 1]))

    def test_gain(self):
        aim = Worst(with_open_rooms(), OPEN_WAY)
        # The room's worth to b less the worth of a's room to a.
        self.assertEqual(aim.gain(0, 1, 3), 42 - 12)
        self.assertEqual(aim.gain(0, 3, 3), 44 - 12)
        self.assertEqual(aim.gain(3, 0, 1), 21 - 41)
        self.assertEqual(aim.gain(3, 2, 0), 13 - 41)
        self.assertEqual(aim.gain(1, 1, 2), 32 - 23)
        aim = Worst(without_open_rooms(), FULL_WAY)
        self.assertEqual(aim.gain(0, 0, 1), 20 - 50)
        self.assertEqual(aim.gain(1, 1, 0), -7 - 90)
        self.assertEqual(aim.gain(3, 2, 2), 60 - 25)
        # Two people in one room.
        self.assertEqual((aim.gain(0, 0, 2), aim.gain(2, 0, 0)), (40 - 50, 50 - 40))

    def test_whole(self):
        self.assertEqual(Worst(with_open_rooms(), OPEN_WAY).whole(), 12 + 23 + 32 + 41 - 100)
        self.assertEqual(Worst(without_open_rooms(), FULL_WAY).whole(), 50 + 90 + 40 + 25 - 70)
        self.assertEqual(Worst(House([1], [[-3]], -10), [0]).whole(), 7)

    def test_price(self):
        aim = Worst(with_open_rooms(), OPEN_WAY)
        self.assertEqual([aim.price(i, 5, 1) for i in range(4)], [7, 18, 27, 36])
        self.assertEqual([aim.price(i, 5, 3) for i in range(4)], [31, 64, 91, 118])
        self.assertEqual([aim.price(i, -5, 2) for i in range(4)], [29, 51, 69, 87])
        self.assertEqual([aim.price(i, 0, 1) for i in range(4)], [12, 23, 32, 41])


class ByEven(unittest.TestCase):
    def test_through_with_open_rooms(self):
        aim = Even(with_open_rooms(), OPEN_WAY)
        for a, b in two_unlike(4):
            self.assertEqual(aim.through(a, b), [0, 1, 2, 3] if b == 3 else [1, 2, 3], (a, b))

    def test_through_without_open_rooms(self):
        aim = Even(without_open_rooms(), FULL_WAY)
        for a, b in two_unlike(4):
            self.assertEqual(aim.through(a, b), [FULL_WAY[b]], (a, b))

    def test_through_is_rising(self):
        aim = Even(House([1, 1, 1], [[0, 0, 0], [0, 0, 0]], 0), [2, 0])
        self.assertEqual((aim.through(0, 1), aim.through(1, 0)), ([0, 1], [1, 2]))

    def test_gain(self):
        aim = Even(with_open_rooms(), OPEN_WAY)
        # The room's worth to a less the worth of a's room to a.
        self.assertEqual(aim.gain(0, 0, 3), 11 - 12)
        self.assertEqual(aim.gain(0, 3, 3), 14 - 12)
        self.assertEqual(aim.gain(3, 2, 1), 43 - 41)
        self.assertEqual(aim.gain(3, 1, 1), 42 - 41)
        self.assertEqual(aim.gain(1, 1, 2), 22 - 23)
        aim = Even(without_open_rooms(), FULL_WAY)
        self.assertEqual(aim.gain(0, 1, 1), -7 - 50)
        self.assertEqual(aim.gain(1, 0, 0), 20 - 90)
        self.assertEqual(aim.gain(2, 2, 3), 60 - 40)
        # Two people in one room.
        self.assertEqual((aim.gain(0, 0, 2), aim.gain(2, 0, 0)), (0, 0))

    def test_whole(self):
        self.assertEqual(Even(with_open_rooms(), OPEN_WAY).whole(), 100)
        self.assertEqual(Even(without_open_rooms(), FULL_WAY).whole(), 70)
        self.assertEqual(Even(House([1], [[-3]], -10), [0]).whole(), -10)

    def test_price(self):
        aim = Even(with_open_rooms(), OPEN_WAY)
        for level in [0, 5, -5, 10 ** 45]:
            for parts in [1, 2, 10000]:
                self.assertEqual([aim.price(i, level, parts) for i in range(4)], [level] * 4)


class AllWays(unittest.TestCase):
    def test_through_and_gain_and_price(self):
        numbers = Numbers(30)
        for turn in range(40):
            people = numbers.between(1, 4)
            house = made_house(numbers, made_beds(numbers, 3, people), people, 30, rent=numbers.between(-50, 50))
            for way in every_way(house):
                self.check(house, way)

    def check(self, house, way):
        rooms = range(len(house.beds))
        free = [room for room in rooms if way.count(room) < house.beds[room]]
        own = [house.worths[person][room] for person, room in enumerate(way)]
        worst = Worst(house, way)
        even = Even(house, way)
        self.assertEqual((worst.whole(), even.whole()), (sum(own) - house.rent, house.rent))
        for a, b in two_unlike(len(way)):
            self.assertEqual(worst.through(a, b), [room for room in rooms if room in free or room == way[a]])
            self.assertEqual(even.through(a, b), [room for room in rooms if room in free or room == way[b]])
            for room in worst.through(a, b):
                self.assertEqual(worst.gain(a, room, b), house.worths[b][room] - own[a])
            for room in even.through(a, b):
                self.assertEqual(even.gain(a, room, b), house.worths[a][room] - own[a])
        for person in range(len(way)):
            self.assertEqual(worst.price(person, 17, 4), 4 * own[person] - 17)
            self.assertEqual(even.price(person, 17, 4), 17)


class Large(unittest.TestCase):
    def test_one_person(self):
        for kind, whole, price in [(Aim, 0, 4), (Worst, 3, 11), (Even, 2, 4)]:
            aim = kind(House([1], [[5]], 2), [0])
            self.assertEqual((aim.whole(), aim.price(0, 4, 3)), (whole, price))

    def test_great_numbers(self):
        house = House([1, 1, 1], [[GREAT, -GREAT, 1], [-GREAT, GREAT, -1]], -GREAT)
        worst = Worst(house, [0, 1])
        self.assertEqual(worst.whole(), 3 * GREAT)
        self.assertEqual((worst.gain(0, 0, 1), worst.gain(0, 2, 1)), (-2 * GREAT, -1 - GREAT))
        self.assertEqual(worst.price(0, 10 ** 44, 10000), -10000)
        even = Even(house, [0, 1])
        self.assertEqual(even.whole(), -GREAT)
        self.assertEqual((even.gain(0, 1, 1), even.gain(0, 2, 1)), (-2 * GREAT, 1 - GREAT))
        self.assertEqual(even.price(0, 10 ** 44, 10000), 10 ** 44)

    def test_ten_rooms_and_ten_people(self):
        house = House([1] * 9 + [2], [[10 * person + room for room in range(10)] for person in range(10)], 0)
        way = list(range(10))
        worst = Worst(house, way)
        even = Even(house, way)
        for a, b in two_unlike(10):
            self.assertEqual(worst.through(a, b), [a, 9] if a < 9 else [9])
            self.assertEqual(even.through(a, b), [b, 9] if b < 9 else [9])
            self.assertEqual(worst.gain(a, 9, b), 10 * b + 9 - 11 * a)
            self.assertEqual(even.gain(a, 9, b), 9 - a)


class Own(unittest.TestCase):
    def test_a_told_list_that_is_changed(self):
        for kind in KINDS:
            for house, way in [(with_open_rooms(), OPEN_WAY), (without_open_rooms(), FULL_WAY)]:
                with self.subTest(kind=kind.__name__, way=way):
                    aim = kind(house, way)
                    before = snapshot(aim)
                    house_before = values(house)
                    for a, b in two_unlike(4):
                        first = aim.through(a, b)
                        kept = list(first)
                        second = aim.through(a, b)
                        self.assertIsNot(first, second)
                        second.append(99)
                        second[0] = 98
                        self.assertEqual(first, kept)
                        first.clear()
                    self.assertEqual(snapshot(aim), before)
                    self.assertEqual(values(house), house_before)

    def test_no_two_told_lists_are_one(self):
        for kind in KINDS:
            aim = kind(with_open_rooms(), OPEN_WAY)
            told = [aim.through(a, b) for a, b in two_unlike(4)]
            self.assertEqual(len({id(rooms) for rooms in told}), len(told))


if __name__ == "__main__":
    unittest.main()
