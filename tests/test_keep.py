"""Point 25: ways of greatest worth by which as many as can keep their room; points 1 and 3 for them."""

import unittest

from houses import (GREAT, Numbers, best_ways, fits, greatest_both, greatest_worth, made_beds, made_house, planted,
                    same_worths, values, worth)
from rentshare.house import House
from rentshare.keep import kept_way


def stays(way, old):
    return sum(room == had for room, had in zip(way, old))


class Keep(unittest.TestCase):
    def check(self, house, old):
        way = kept_way(house, old)
        self.assertIs(type(way), list)
        self.assertTrue(all(type(room) is int for room in way), way)
        self.assertTrue(fits(house, way), (values(house), way))
        told = (worth(house, way), stays(way, old))
        self.assertEqual(told, greatest_both(house, old), (values(house), old, way))
        return way

    def test_one_person(self):
        self.assertEqual(self.check(House([1], [[5]], 2), [0]), [0])
        self.assertEqual(self.check(House([1], [[5]], 2), [None]), [0])
        house = House([1, 1, 2], [[5, 7, 7]], 2)
        self.assertEqual(self.check(house, [1]), [1])
        self.assertEqual(self.check(house, [2]), [2])
        # Nobody stays where it would cost worth.
        self.assertIn(self.check(house, [0]), [[1], [2]])

    def test_nobody_had_a_room(self):
        numbers = Numbers(90)
        for turn in range(30):
            people = numbers.between(1, 5)
            house = made_house(numbers, made_beds(numbers, 4, people), people, [2, 1000][turn % 2])
            way = self.check(house, [None] * people)
            self.assertEqual(worth(house, way), greatest_worth(house))

    def test_everybody_keeps_theirs(self):
        numbers = Numbers(91)
        for turn in range(60):
            people = numbers.between(1, 4)
            house = made_house(numbers, made_beds(numbers, numbers.between(1, 4), people), people, 1)
            for old in best_ways(house):
                self.assertEqual(self.check(house, list(old)), old)

    def test_all_ways_are_as_good(self):
        house = same_worths([1, 1, 1], 3)
        for old in [[0, 1, 2], [2, 0, 1], [1, 2, 0], [2, 1, 0]]:
            self.assertEqual(self.check(house, old), old)
        # Two stay, and the third has what is left.
        self.assertEqual(self.check(house, [2, None, 0]), [2, 1, 0])
        self.assertEqual(self.check(house, [None, 0, 2]), [1, 0, 2])

    def test_more_people_than_beds_had_a_room(self):
        house = same_worths([1, 1, 1], 3)
        way = self.check(house, [1, 1, 1])
        self.assertEqual(stays(way, [1, 1, 1]), 1)
        way = self.check(house, [1, 1, None])
        self.assertEqual(stays(way, [1, 1, None]), 1)
        house = same_worths([2, 4], 5)
        way = self.check(house, [0] * 5)
        self.assertEqual(way.count(0), 2)
        way = self.check(house, [0, 0, 0, 1, 1])
        self.assertEqual((stays(way, [0, 0, 0, 1, 1]), way[3:]), (4, [1, 1]))

    def test_worth_comes_first(self):
        # One hundredth of worth counts more than that ten stay.
        worths = [[0] * 10 for person in range(10)]
        worths[0][9] = 1
        house = House([1] * 10, worths, 0)
        way = self.check(house, list(range(10)))
        self.assertEqual((way[0], stays(way, list(range(10)))), (9, 8))
        # A ring of ten: all stay or all move on by one, which is worth one hundredth more.
        moved = [1, 2, 3, 4, 5, 6, 7, 8, 9, 0]
        worths = [[5 if room in (person, moved[person]) else -50 for room in range(10)] for person in range(10)]
        house = House([1] * 10, worths, 0)
        self.assertEqual(self.check(house, list(range(10))), list(range(10)))
        self.assertEqual(self.check(house, moved), moved)
        worths[3][4] = 6
        self.assertEqual(self.check(House([1] * 10, worths, 0), list(range(10))), moved)

    def test_as_many_as_can(self):
        # If person 0 stayed, persons 1 and 2 could not; so two stay rather than one.
        worths = [[5, 5, 0, 0], [0, 5, 5, 0], [5, 0, 5, 0]]
        house = House([1, 1, 1, 1], worths, 0)
        self.assertEqual(best_ways(house), [[0, 1, 2], [1, 2, 0]])
        self.assertEqual(self.check(house, [0, 2, 0]), [1, 2, 0])
        self.assertEqual(self.check(house, [1, 1, 2]), [0, 1, 2])
        self.assertEqual(self.check(house, [1, None, None]), [1, 2, 0])
        self.assertEqual(self.check(house, [None, None, 2]), [0, 1, 2])
        # Nobody can stay in room 3.
        self.assertIn(self.check(house, [3, 3, 3]), best_ways(house))

    def test_small_houses(self):
        numbers = Numbers(92)
        seen = {}
        for turn in range(400):
            people = numbers.between(1, 4)
            rooms = numbers.between(1, 4)
            house = made_house(numbers, made_beds(numbers, rooms, people), people, [1, 1, 2, 20][turn % 4])
            old = [None if numbers.below(4) == 0 else numbers.below(rooms) for person in range(people)]
            way = self.check(house, old)
            ways = best_ways(house)
            self.assertIn(way, ways)
            counts = [stays(other, old) for other in ways]
            self.assertEqual(stays(way, old), max(counts), (values(house), old, way))
            seen[min(counts) < max(counts)] = seen.get(min(counts) < max(counts), 0) + 1
            seen["crowd"] = seen.get("crowd", 0) + any(old.count(room) > house.beds[room] for room in range(rooms))
        self.assertGreater(min(seen.values()), 20, seen)

    def test_ten_rooms_and_ten_people(self):
        numbers = Numbers(93)
        for size in [0, 1, 2, 1000]:
            for beds in [[1] * 10, [1, 2, 1, 1, 2, 1, 1, 1, 2, 1]]:
                house = made_house(numbers, beds, 10, size)
                for again in range(2):
                    self.check(house, [None if numbers.below(5) == 0 else numbers.below(10) for person in range(10)])
                self.check(house, numbers.mixed(range(10)))
        house, way = planted(numbers, [1, 2] * 5, 10, 30)
        self.assertEqual(self.check(house, [(room + 1) % 10 for room in way]), way)

    def test_amounts_of_forty_figures(self):
        for amount in [GREAT, -GREAT]:
            house = same_worths([1] * 10, 10, amount)
            self.assertEqual(self.check(house, [3, 1, 4, 0, 5, 9, 2, 6, 8, 7]), [3, 1, 4, 0, 5, 9, 2, 6, 8, 7])
        house = House([1, 1], [[GREAT, GREAT - 1], [GREAT, GREAT - 2]], 0)
        self.assertEqual(self.check(house, [0, 1]), [1, 0])
        house = House([1, 1], [[GREAT, GREAT - 1], [GREAT, GREAT - 1]], 0)
        self.assertEqual(self.check(house, [0, 1]), [0, 1])
        self.assertEqual(self.check(house, [1, 0]), [1, 0])
        house = House([1, 1], [[-GREAT, 1 - GREAT], [-GREAT, 1 - GREAT]], GREAT)
        self.assertEqual(self.check(house, [1, None]), [1, 0])
        self.assertEqual(self.check(house, [None, 1]), [0, 1])


class Own(unittest.TestCase):
    def house(self):
        return House([1, 2], [[5, 5], [5, 5], [0, 9]], 7)

    def test_what_is_handed_in_stays_as_it_was(self):
        for old in [[0, 1, 1], [1, 0, None], [0, 0, 0], [None, None, None]]:
            house = self.house()
            handed = list(old)
            kept_way(house, handed)
            self.assertEqual(handed, old)
            self.assertEqual(values(house), values(self.house()))

    def test_the_list_told_is_the_askers_own(self):
        house = self.house()
        old = [1, 0, 1]
        first = kept_way(house, old)
        again = kept_way(house, old)
        self.assertIsNot(first, again)
        for one in [first, again]:
            self.assertFalse(any(one is other for other in [old, house.beds, house.worths] + house.worths))
        first.append(7)
        first[0] = 5
        self.assertEqual((again, kept_way(house, old)), ([1, 0, 1], [1, 0, 1]))
        self.assertEqual((old, values(house)), ([1, 0, 1], values(self.house())))


if __name__ == "__main__":
    unittest.main()
