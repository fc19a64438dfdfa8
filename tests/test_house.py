"""Points 1, 3, 7 and 8: houses and ways."""

import itertools
import unittest

from rentshare.errors import TooFew
from rentshare.house import House, is_way, lying, open_rooms, worth_of

GREAT = 10 ** 40 - 1


def small_house():
    # Three rooms of 2, 1 and 1 beds, three people; one bed stays free.
    return House([2, 1, 1], [[500, 400, -30], [70, 0, 90], [-1, -2, -3]], 1000)


def values(house):
    return (list(house.beds), [list(row) for row in house.worths], house.rent)


class Made(unittest.TestCase):
    def test_values_and_sizes(self):
        house = House([2, 1], [[5, -6], [7, 8], [0, 9]], -40)
        self.assertEqual(house.beds, [2, 1])
        self.assertEqual(house.worths, [[5, -6], [7, 8], [0, 9]])
        self.assertEqual(house.rent, -40)
        self.assertEqual(house.people(), 3)
        self.assertEqual(house.rooms(), 2)

    def test_people_and_rooms_are_not_mixed_up(self):
        house = House([1, 1, 1, 4], [[1, 2, 3, 4]], 0)
        self.assertEqual((house.people(), house.rooms()), (1, 4))

    def test_least_and_greatest_house(self):
        house = House([1], [[0]], 0)
        self.assertEqual((house.people(), house.rooms()), (1, 1))
        house = House([4] * 10, [[GREAT] * 10 for person in range(10)], -GREAT)
        self.assertEqual((house.people(), house.rooms()), (10, 10))
        self.assertEqual(house.worths[9][9], GREAT)
        self.assertEqual(house.rent, -GREAT)

    def test_as_many_people_as_beds(self):
        for beds in [[1], [4], [2, 1], [1, 1, 1], [4, 4, 2], [1] * 10]:
            with self.subTest(beds=beds):
                house = House(beds, [[0] * len(beds) for person in range(sum(beds))], 0)
                self.assertEqual(house.people(), sum(beds))

    def test_one_more_is_refused(self):
        for beds in [[1], [4], [2, 1], [1, 1, 1], [4, 4, 1], [1] * 9]:
            with self.subTest(beds=beds):
                with self.assertRaises(TooFew):
                    House(beds, [[0] * len(beds) for person in range(sum(beds) + 1)], 0)

    def test_many_more_are_refused(self):
        with self.assertRaises(TooFew):
            House([1], [[0] for person in range(10)], 0)

    def test_beds_are_counted_and_not_rooms(self):
        self.assertEqual(House([3], [[1], [2], [3]], 0).people(), 3)

    def test_a_refusal_changes_nothing_handed_in(self):
        beds = [1]
        worths = [[1], [2]]
        with self.assertRaises(TooFew):
            House(beds, worths, 0)
        self.assertEqual((beds, worths), ([1], [[1], [2]]))


class Copies(unittest.TestCase):
    def test_later_changes_of_what_was_handed_in(self):
        beds = [2, 1]
        worths = [[5, 6], [7, 8]]
        house = House(beds, worths, 10)
        beds[0] = 4
        beds.append(1)
        worths[0][0] = 99
        worths[1].append(99)
        worths.append([1, 2])
        self.assertEqual(values(house), ([2, 1], [[5, 6], [7, 8]], 10))
        self.assertEqual((house.people(), house.rooms()), (2, 2))

    def test_what_was_handed_in_stays(self):
        beds = [2, 1]
        worths = [[5, 6], [7, 8]]
        house = House(beds, worths, 10)
        house.beds[0] = 4
        house.worths[0][0] = 99
        house.worths.append([1, 2])
        self.assertEqual((beds, worths), ([2, 1], [[5, 6], [7, 8]]))

    def test_one_list_handed_in_for_two_people(self):
        row = [5, 6]
        house = House([2, 1], [row, row], 10)
        house.worths[0][0] = 99
        self.assertEqual(house.worths, [[99, 6], [5, 6]])
        self.assertEqual(row, [5, 6])

    def test_a_house_made_with_the_lists_of_another(self):
        one = small_house()
        other = House(one.beds, one.worths, one.rent)
        one.beds[0] = 4
        one.worths[0][0] = 99
        one.worths.append([1, 2, 3])
        self.assertEqual(values(other), values(small_house()))


class Ways(unittest.TestCase):
    def test_lying(self):
        house = small_house()
        self.assertEqual(lying(house, [0, 0, 1]), [2, 1, 0])
        self.assertEqual(lying(house, [2, 1, 0]), [1, 1, 1])
        self.assertEqual(lying(house, [0, 2, 0]), [2, 0, 1])

    def test_open_rooms(self):
        house = small_house()
        self.assertEqual(open_rooms(house, [0, 0, 1]), [2])
        self.assertEqual(open_rooms(house, [0, 2, 0]), [1])

    def test_a_room_may_be_open_and_taken(self):
        house = small_house()
        self.assertEqual(open_rooms(house, [2, 1, 0]), [0])
        house = House([4], [[1], [1], [1]], 0)
        self.assertEqual((lying(house, [0, 0, 0]), open_rooms(house, [0, 0, 0])), ([3], [0]))

    def test_empty_rooms_and_full_ones(self):
        house = House([3, 1, 2, 4], [[1, 2, 3, 4], [5, 6, 7, 8]], 0)
        self.assertEqual(lying(house, [2, 2]), [0, 0, 2, 0])
        self.assertEqual(open_rooms(house, [2, 2]), [0, 1, 3])
        self.assertEqual(lying(house, [3, 1]), [0, 1, 0, 1])
        self.assertEqual(open_rooms(house, [3, 1]), [0, 2, 3])

    def test_no_open_room(self):
        house = House([1, 2], [[1, 2], [3, 4], [5, 6]], 0)
        self.assertEqual(lying(house, [1, 0, 1]), [1, 2])
        self.assertEqual(open_rooms(house, [1, 0, 1]), [])

    def test_greatest_house(self):
        house = House([4] * 10, [[room for room in range(10)] for person in range(10)], 0)
        way = [9, 9, 9, 9, 0, 0, 0, 0, 5, 5]
        self.assertEqual(lying(house, way), [4, 0, 0, 0, 0, 2, 0, 0, 0, 4])
        self.assertEqual(open_rooms(house, way), [1, 2, 3, 4, 5, 6, 7, 8])
        self.assertEqual(worth_of(house, way), 46)

    def test_worth_of(self):
        house = small_house()
        self.assertEqual(worth_of(house, [0, 0, 1]), 568)
        self.assertEqual(worth_of(house, [1, 2, 0]), 489)

    def test_worth_below_nought(self):
        house = small_house()
        self.assertEqual(worth_of(house, [2, 1, 0]), -31)
        self.assertEqual(worth_of(House([1], [[-7]], 0), [0]), -7)

    def test_worth_leaves_the_rent_aside(self):
        self.assertEqual(worth_of(House([1], [[5]], 1000), [0]), 5)

    def test_great_worths(self):
        house = House([4, 4, 4], [[GREAT, -GREAT, 1] for person in range(10)], 0)
        self.assertEqual(worth_of(house, [0] * 4 + [1] * 2 + [2] * 4), 2 * GREAT + 4)
        self.assertEqual(worth_of(house, [1] * 4 + [2] * 4 + [0] * 2), -2 * GREAT + 4)


class IsWay(unittest.TestCase):
    def check(self, house, way, answer):
        self.assertIs(is_way(house, way), answer, way)

    def test_ways(self):
        for way in [[0, 0, 1], [0, 0, 2], [2, 1, 0], [1, 0, 0], [0, 1, 2]]:
            self.check(small_house(), way, True)

    def test_too_short_too_long_empty(self):
        for way in [[], [0], [0, 1], [0, 0, 1, 2], [0, 1, 2, 0], [0] * 1000, [0, 1, 2] * 1000]:
            self.check(small_house(), way, False)

    def test_below_nought(self):
        # -1 would be the last room if it were taken as an index.
        for way in [[0, 0, -1], [-1, 0, 1], [0, -3, 1], [-1, -2, -3], [0, 1, -(10 ** 40)]]:
            self.check(small_house(), way, False)

    def test_beyond_the_rooms(self):
        for way in [[0, 0, 3], [3, 0, 1], [0, 4, 1], [0, 1, 10 ** 40], [10 ** 39, 10 ** 39, 0]]:
            self.check(small_house(), way, False)

    def test_a_room_over_its_beds(self):
        for way in [[0, 0, 0], [1, 1, 0], [0, 1, 1], [2, 0, 2], [2, 2, 2]]:
            self.check(small_house(), way, False)

    def test_full_rooms_and_one_over(self):
        house = House([4, 1], [[0, 0] for person in range(5)], 0)
        self.check(house, [0, 0, 0, 0, 1], True)
        self.check(house, [0, 0, 0, 1, 1], False)
        self.check(house, [0, 0, 0, 0, 0], False)

    def test_least_house(self):
        house = House([1], [[0]], 0)
        self.check(house, [0], True)
        for way in [[], [1], [-1], [0, 0]]:
            self.check(house, way, False)

    def test_all_short_lists(self):
        for beds in [[1, 1], [2, 1], [3, 1, 2], [4]]:
            for people in range(1, min(3, sum(beds)) + 1):
                house = House(beds, [[0] * len(beds) for person in range(people)], 0)
                # Each bed is a thing of its own here, so ways are what people can take from a row of beds.
                row = [room for room, count in enumerate(beds) for bed in range(count)]
                ways = set(itertools.permutations(row, people))
                for length in range(people + 2):
                    for way in itertools.product(range(-1, len(beds) + 1), repeat=length):
                        self.check(house, list(way), way in ways)


class Unchanged(unittest.TestCase):
    def test_house_and_way_stay_as_they_were(self):
        for asked in [lying, open_rooms, worth_of, is_way]:
            with self.subTest(asked=asked.__name__):
                house = small_house()
                way = [2, 0, 0]
                asked(house, way)
                self.assertEqual(way, [2, 0, 0])
                self.assertEqual(values(house), values(small_house()))

    def test_no_way_stays_as_it_was(self):
        for way in [[2, 2, 0], [5, -1, 0], [1], [3, 2, 1, 0]]:
            kept = list(way)
            is_way(small_house(), way)
            self.assertEqual(way, kept)

    def test_what_is_told_is_the_askers_own(self):
        for asked in [lying, open_rooms]:
            with self.subTest(asked=asked.__name__):
                house = small_house()
                way = [2, 0, 0]
                first = asked(house, way)
                told = list(first)
                second = asked(house, way)
                self.assertIs(type(first), list)
                self.assertIsNot(first, second)
                second.append(99)
                self.assertEqual(first, told)
                self.assertEqual(asked(house, way), told)
                self.assertEqual(way, [2, 0, 0])
                self.assertEqual(values(house), values(small_house()))


if __name__ == "__main__":
    unittest.main()
