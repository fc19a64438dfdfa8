"""Point 19: level rooms, and all ways of greatest worth; points 1 and 3 for them."""

import itertools
import unittest
from fractions import Fraction

from houses import (GREAT, Numbers, all_unlike, best_ways, every_way, lists_in, made_beds, made_house, planted,
                    share_list, tied_house, values)
from rentshare.aims import Worst
from rentshare.divide import divide
from rentshare.errors import NoAmount, NoLine, RentError, TooFew, TooMany
from rentshare.house import House
from rentshare.ways import all_ways, level_rooms


def pairs_house(count, rent=0):
    """Ten people and ten single beds; so many pairs like two rooms just as much, each other person one alone."""
    worths = []
    for person in range(10):
        first = person - person % 2
        liked = [first, first + 1] if person < 2 * count else [person]
        worths.append([50 if room in liked else 0 for room in range(10)])
    return House([1] * 10, worths, rent)


def level_by(house, way, prices):
    had = share_list(house, way, prices)
    rooms = range(len(house.beds))
    return [[room for room in rooms if row[room] - Fraction(prices[1][room], prices[0]) == had[person]]
            for person, row in enumerate(house.worths)]


class LevelRooms(unittest.TestCase):
    def check(self, house, ways):
        told = level_rooms(house)
        self.assertIs(type(told), list)
        self.assertEqual(len(told), len(house.worths))
        for rooms in told:
            self.assertIs(type(rooms), list)
            self.assertTrue(all(type(room) is int for room in rooms))
        for way in ways:
            self.assertEqual(told, level_by(house, way, divide(Worst(house, way))[0]), values(house))
            self.assertTrue(all(room in rooms for room, rooms in zip(way, told)), values(house))
        return told

    def test_one_person(self):
        self.assertEqual(level_rooms(House([1], [[5]], 2)), [[0]])
        # All rooms cost the same then.
        self.assertEqual(level_rooms(House([1, 2, 1], [[3, 9, 4]], 7)), [[1]])
        self.assertEqual(level_rooms(House([1, 2, 1], [[9, 3, 9]], 7)), [[0, 2]])

    def test_nobody_is_level_elsewhere(self):
        house = House([1, 1], [[9, 1], [1, 8]], 11)
        self.assertEqual(self.check(house, [[0, 1]]), [[0], [1]])

    def test_level_by_a_chain(self):
        # The shares are 5/2 and 1/2, the prices 13/2 and 7/2; person 0 would have 5/2 in room 1, too.
        house = House([1, 1], [[9, 6], [5, 4]], 10)
        self.assertEqual(self.check(house, [[0, 1]]), [[0, 1], [1]])
        house = House([2, 1], [[30000, 46000], [25000, 40000], [35000, 30000]], 90000)
        self.assertEqual(self.check(house, [[1, 0, 0]]), [[0, 1], [0], [0]])

    def test_an_empty_room_may_be_level(self):
        house = House([1, 1, 1], [[9, 0, 9], [0, 4, 3]], 5)
        self.assertEqual(self.check(house, best_ways(house)), [[0, 2], [1]])

    def test_people_who_tell_the_same(self):
        house = House([1, 1, 1], [[9, 5, 2] for person in range(3)], 20)
        self.assertEqual(self.check(house, best_ways(house)), [[0, 1, 2]] * 3)
        house = House([1, 2], [[10, 4], [10, 4]], 0)
        self.assertEqual(self.check(house, best_ways(house)), [[0, 1]] * 2)

    def test_tied_houses(self):
        house = tied_house([3, 1, 10], 10, rent=7)
        self.assertEqual(self.check(house, [[1, 0, 5]]), [[0, 1, 2], [0], list(range(10))])

    def test_small_houses(self):
        numbers = Numbers(70)
        sizes = {}
        for turn in range(120):
            people = numbers.between(1, 4)
            house = made_house(numbers, made_beds(numbers, numbers.between(1, 4), people), people,
                               [2, 5, 40][turn % 3], rent=numbers.between(-30, 30))
            for rooms in self.check(house, best_ways(house)):
                sizes[len(rooms)] = sizes.get(len(rooms), 0) + 1
        self.assertTrue(all(sizes.get(size, 0) > 5 for size in [1, 2, 3]), sizes)

    def test_ten_rooms_and_ten_people(self):
        numbers = Numbers(71)
        for size in [5, 1000, 10 ** 39 * 4]:
            for beds in [[1] * 10, [1, 2] * 5, [1, 1, 4, 1, 1, 1, 2, 1, 1, 1]]:
                house, way = planted(numbers, beds, 10, size)
                self.check(house, [way])
        for rent in [-GREAT, GREAT]:
            house = House([1] * 10, [[GREAT] * 10 for person in range(10)], rent)
            self.assertEqual(self.check(house, [list(range(10))]), [list(range(10))] * 10)


class AllWays(unittest.TestCase):
    def check(self, house, ways):
        told = all_ways(house)
        self.assertIs(type(told), list)
        for way in told:
            self.assertIs(type(way), list)
            self.assertTrue(all(type(room) is int for room in way))
        self.assertEqual(told, ways, values(house))

    def test_one_way(self):
        self.check(House([1], [[5]], 2), [[0]])
        self.check(House([3], [[5], [-4]], 2), [[0, 0]])
        self.check(House([1, 1], [[9, 6], [5, 4]], 10), [[0, 1]])
        self.check(House([2, 1], [[30000, 46000], [25000, 40000], [35000, 30000]], 90000), [[1, 0, 0]])

    def test_several_ways(self):
        self.check(House([1, 1], [[10, 4], [10, 4]], 3), [[0, 1], [1, 0]])
        self.check(House([1, 2, 1], [[9, 3, 9]], 7), [[0], [2]])
        self.check(House([1, 1, 1], [[9, 5, 2] for person in range(3)], 20),
                   [[0, 1, 2], [0, 2, 1], [1, 0, 2], [1, 2, 0], [2, 0, 1], [2, 1, 0]])
        self.check(House([2, 2], [[1, 1], [1, 1]], 0), [[0, 0], [0, 1], [1, 0], [1, 1]])

    def test_level_rooms_that_dont_make_a_way(self):
        # Both might lie in room 0, but it has one bed.
        self.check(House([1, 2], [[10, 4], [10, 4]], 0), [[0, 1], [1, 0]])

    def test_a_way_of_level_rooms_that_isnt_of_greatest_worth(self):
        # Room 1 has beds for both, and both have the same share there, but the dear room 0 would have a free bed.
        house = House([1, 2], [[10, 4], [10, 4]], 0)
        self.assertIn([1, 1], every_way(house))
        self.assertEqual(level_rooms(house), [[0, 1], [0, 1]])
        self.check(house, [[0, 1], [1, 0]])
        self.check(House([1, 1, 2], [[10, 0, 4], [10, 0, 4], [0, 0, 9]], 0), [[0, 2, 2], [2, 0, 2]])

    def test_rising_order(self):
        # Rising by numbers, not as texts are.
        self.check(House([1] * 10, [[0, 5, 0, 0, 0, 0, 0, 0, 0, 5], [7, 0, 7, 0, 0, 0, 0, 0, 0, 0]], 0),
                   [[1, 0], [1, 2], [9, 0], [9, 2]])

    def test_small_houses(self):
        numbers = Numbers(72)
        counts = {}
        for turn in range(200):
            people = numbers.between(1, 4)
            house = made_house(numbers, made_beds(numbers, numbers.between(1, 4), people), people,
                               [1, 2, 3, 40][turn % 4], rent=numbers.between(-30, 30))
            product = 1
            for rooms in level_rooms(house):
                product *= len(rooms)
            if product <= 200:
                ways = best_ways(house)
                self.check(house, ways)
                counts[min(len(ways), 5)] = counts.get(min(len(ways), 5), 0) + 1
                counts["left out"] = counts.get("left out", 0) + (len(ways) < product)
        self.assertTrue(all(counts.get(thing, 0) > 3 for thing in [1, 2, 3, 5, "left out"]), counts)

    def test_worths_below_nought_and_of_forty_figures(self):
        for one, other in [(-4, -10), (GREAT, GREAT - 1), (1 - GREAT, -GREAT), (GREAT, -GREAT)]:
            for rent in [-GREAT, 0, GREAT]:
                self.check(House([1, 1], [[one, other], [one, other]], rent), [[0, 1], [1, 0]])
        # One hundredth apart there is one way alone.
        self.check(House([1, 1], [[GREAT, GREAT - 1], [GREAT, GREAT - 2]], 0), [[1, 0]])

    def test_ten_rooms_and_ten_people(self):
        for count in range(4):
            halves = [[[2 * pair, 2 * pair + 1], [2 * pair + 1, 2 * pair]] for pair in range(count)]
            rest = list(range(2 * count, 10))
            ways = [sum(chosen, []) + rest for chosen in itertools.product(*halves)]
            self.check(pairs_house(count, rent=33), ways)
        # Each person likes one more room than the one ahead, but those are taken.
        self.check(tied_house([1, 2, 3, 4, 5], 10), [[0, 1, 2, 3, 4]])


class Refusals(unittest.TestCase):
    def check(self, house):
        with self.assertRaises(TooMany) as caught:
            all_ways(house)
        for other in [NoAmount, NoLine, TooFew]:
            self.assertNotIsInstance(caught.exception, other)
        for above in [RentError, ValueError]:
            with self.assertRaises(above):
                all_ways(house)

    def free_choice(self, liked):
        """Each person chooses among the first rooms; no two choose one."""
        lists = itertools.product(*[range(count) for count in liked])
        return [list(way) for way in lists if len(set(way)) == len(way)]

    def test_two_hundred_are_looked_at(self):
        for liked in [[10, 10, 2], [2, 10, 10], [10, 5, 4], [8, 5, 5], [10, 4, 5, 1]]:
            product = 1
            for count in liked:
                product *= count
            self.assertEqual(product, 200)
            house = tied_house(liked, 10)
            self.assertEqual([len(rooms) for rooms in level_rooms(house)], liked)
            self.assertEqual(all_ways(house), self.free_choice(liked))

    def test_the_next_above_are_refused(self):
        # No numbers up to ten have a product from 201 to 209.
        for liked in [[10, 7, 3], [3, 7, 10], [7, 6, 5], [5, 7, 6, 1]]:
            house = tied_house(liked, 10)
            self.assertEqual([len(rooms) for rooms in level_rooms(house)], liked)
            self.check(house)

    def test_just_below(self):
        for liked in [[7, 7, 4], [8, 8, 3], [9, 7, 3]]:
            self.assertEqual(all_ways(tied_house(liked, 10)), self.free_choice(liked))

    def test_the_lists_are_counted_and_not_the_ways(self):
        # 256 lists, but 24 ways.
        self.check(House([1] * 4, [[5] * 4 for person in range(4)], 0))
        # 2 ** 8 lists, but 70 ways.
        self.check(House([4, 4], [[5, 5] for person in range(8)], 0))
        # 2 ** 7 lists, and 35 ways.
        told = all_ways(House([4, 3], [[5, 5] for person in range(7)], 0))
        self.assertEqual(len(told), 35)
        # 2 ** 8 lists, but 16 ways; with three pairs there are 8.
        self.check(pairs_house(4))
        self.assertEqual(len(all_ways(pairs_house(3))), 8)

    def test_very_many(self):
        self.check(House([1] * 10, [[0] * 10 for person in range(10)], 0))
        self.check(House([4] * 10, [[GREAT] * 10 for person in range(10)], GREAT))
        self.check(House([4] * 10, [[-GREAT] * 10 for person in range(10)], -GREAT))

    def test_level_rooms_are_told_all_the_same(self):
        self.assertEqual(level_rooms(House([1] * 4, [[5] * 4 for person in range(4)], 0)), [[0, 1, 2, 3]] * 4)


class Own(unittest.TestCase):
    def house(self):
        return House([1, 2, 1], [[10, 4, 4], [10, 4, 4], [3, 8, 8]], 7)

    def test_what_is_handed_in_stays_as_it_was(self):
        house = self.house()
        level_rooms(house)
        all_ways(house)
        self.assertEqual(values(house), values(self.house()))
        many = tied_house([10, 7, 3], 10)
        self.assertRaises(TooMany, all_ways, many)
        self.assertEqual(values(many), values(tied_house([10, 7, 3], 10)))

    def test_no_two_lists_are_one(self):
        house = self.house()
        told = (level_rooms(house), all_ways(house), level_rooms(house), all_ways(house))
        self.assertGreater(len(told[1]), 1)
        self.assertTrue(all_unlike(told))
        aside = [house.beds, house.worths] + house.worths
        for one in lists_in(told):
            self.assertFalse(any(one is other for other in aside))

    def test_told_lists_that_are_changed(self):
        house = self.house()
        first = (level_rooms(house), all_ways(house))
        kept = ([list(rooms) for rooms in first[0]], [list(way) for way in first[1]])
        for one in lists_in(first):
            one.append(7)
            one[0] = 5
        self.assertEqual((level_rooms(house), all_ways(house)), kept)
        self.assertEqual(values(house), values(self.house()))


if __name__ == "__main__":
    unittest.main()
