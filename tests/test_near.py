"""Point 26: pairs who lie in one wing, and ways by which most of them do; points 1 and 3 for them."""

import itertools
import unittest

from houses import (GREAT, Numbers, best_ways, fits, made_beds, made_house, planted, same_worths, tied_house, values,
                    worth)
from rentshare.errors import RentError, TooMany
from rentshare.house import House
from rentshare.near import near_count, near_way
from rentshare.ways import all_ways, level_rooms


def count_near(way, wings, pairs):
    """Reckoned without the program."""
    return sum(wings[way[one]] == wings[way[other]] for one, other in pairs)


def made_pairs(numbers, people, most):
    """At most that many, in any order, each with its two people in either order."""
    pairs = numbers.mixed(list(itertools.combinations(range(people), 2)))[:most]
    return [pair if numbers.below(2) == 0 else pair[::-1] for pair in pairs]


class Count(unittest.TestCase):
    def check(self, way, wings, pairs, count):
        told = near_count(way, wings, pairs)
        self.assertIs(type(told), int)
        self.assertEqual(told, count, (way, wings, pairs))

    def test_no_pairs(self):
        self.check([0], ["east"], [], 0)
        self.check([0, 0, 1], ["east", "east"], [], 0)

    def test_one_pair(self):
        self.check([0, 1], ["east", "east"], [(0, 1)], 1)
        self.check([0, 1], ["east", "west"], [(0, 1)], 0)
        self.check([2, 0, 1], ["east", "west", "east"], [(0, 1)], 1)
        self.check([2, 0, 1], ["east", "west", "east"], [(0, 2)], 0)

    def test_pairs_in_either_order(self):
        wings = ["east", "west", "east"]
        self.check([0, 1, 2], wings, [(0, 2)], 1)
        self.check([0, 1, 2], wings, [(2, 0)], 1)
        self.check([0, 1, 2], wings, [(1, 0)], 0)
        self.check([0, 1, 2], wings, [(2, 1), (2, 0), (0, 1)], 1)

    def test_two_in_one_room(self):
        self.check([1, 1], ["east", "west"], [(0, 1)], 1)
        self.check([1, 0, 1, 0], ["east", "west"], [(0, 2), (1, 3), (0, 1), (3, 2)], 2)

    def test_one_room(self):
        self.check([0], ["a"], [], 0)
        self.check([0, 0, 0, 0], ["a"], list(itertools.combinations(range(4), 2)), 6)
        self.check([0, 0, 0, 0], ["a"], [(3, 1)], 1)

    def test_wings_that_differ_in_one_sign(self):
        for one, other in [("east", "easu"), ("east", "fast"), ("east", "eas"), ("east", "eeast"), ("east", "East"),
                           ("a", "b"), ("a", ""), ("a", "a "), ("a", " a"), ("wing 1", "wing 2"), ("ab", "ba")]:
            self.check([0, 1], [one, other], [(0, 1)], 0)
            self.check([0, 1], [other, one], [(0, 1)], 0)
            self.check([0, 1], [one, one], [(0, 1)], 1)
            self.check([0, 1], [other, other], [(1, 0)], 1)
        # Texts of one wording that were made apart are one wing.
        self.check([0, 1], ["".join(["ea", "st"]), "".join(["e", "ast"])], [(0, 1)], 1)

    def test_only_the_rooms_that_they_lie_in_count(self):
        self.check([0, 2], ["east", "west", "west", "east"], [(0, 1)], 0)
        self.check([3, 0], ["east", "west", "west", "east"], [(0, 1)], 1)

    def test_ten_people(self):
        pairs = list(itertools.combinations(range(10), 2))
        self.check(list(range(10)), ["a"] * 10, pairs, 45)
        self.check(list(range(10)), list("abcdefghij"), pairs, 0)
        self.check(list(range(10)), list("ababababab"), pairs, 20)
        self.check([9, 8, 7, 6, 5, 4, 3, 2, 1, 0], list("aaabbbcccc"), pairs, 12)

    def test_made_up_ways(self):
        numbers = Numbers(110)
        for turn in range(200):
            rooms = numbers.between(1, 10)
            people = numbers.between(1, 10)
            wings = [["a", "b", "ab", "ba"][numbers.below(4)] for room in range(rooms)]
            way = [numbers.below(rooms) for person in range(people)]
            pairs = made_pairs(numbers, people, numbers.between(0, 45))
            self.check(way, wings, pairs, count_near(way, wings, pairs))


class Way(unittest.TestCase):
    def check(self, house, wings, pairs):
        way = near_way(house, wings, pairs)
        self.assertIs(type(way), list)
        self.assertTrue(all(type(room) is int for room in way), way)
        self.assertTrue(fits(house, way), (values(house), way))
        ways = all_ways(house)
        most = max(count_near(other, wings, pairs) for other in ways)
        first = [other for other in ways if count_near(other, wings, pairs) == most][0]
        self.assertEqual(way, first, (values(house), wings, pairs))
        return way

    def test_one_person(self):
        self.assertEqual(self.check(House([1], [[5]], 2), ["a"], []), [0])
        self.assertEqual(self.check(House([1, 1, 2], [[5, 7, 7]], 2), ["a", "b", "c"], []), [1])

    def test_without_pairs_the_first_of_all_ways(self):
        self.assertEqual(self.check(same_worths([1, 1, 1], 3), ["a", "b", "a"], []), [0, 1, 2])
        self.assertEqual(self.check(same_worths([2, 1], 2), ["a", "b"], []), [0, 0])
        self.assertEqual(self.check(House([1, 1], [[3, 3], [3, 3]], 0), ["a", "a"], []), [0, 1])

    def test_the_pair_lies_in_one_wing(self):
        house = same_worths([1, 1, 1], 3)
        wings = ["a", "b", "a"]
        self.assertEqual(self.check(house, wings, [(0, 1)]), [0, 2, 1])
        self.assertEqual(self.check(house, wings, [(1, 0)]), [0, 2, 1])
        self.assertEqual(self.check(house, wings, [(0, 2)]), [0, 1, 2])
        self.assertEqual(self.check(house, wings, [(1, 2)]), [1, 0, 2])
        self.assertEqual(self.check(house, ["a", "b", "b"], [(2, 0)]), [1, 0, 2])

    def test_as_many_pairs_as_can(self):
        house = same_worths([1, 1, 1, 1], 3)
        # Two rooms of one wing: at most one pair of three.
        self.assertEqual(self.check(house, list("abca"), [(0, 1), (1, 2), (2, 0)]), [0, 1, 3])
        # Three rooms of one wing: all three pairs.
        self.assertEqual(self.check(house, list("abaa"), [(0, 1), (1, 2), (2, 0)]), [0, 2, 3])
        # Person 1 has two pairs; all three near, or two of them nowhere.
        self.assertEqual(self.check(house, list("aabb"), [(0, 1), (1, 2)]), [0, 1, 2])
        self.assertEqual(self.check(house, list("aabb"), [(0, 2)]), [0, 2, 1])

    def test_worth_comes_first(self):
        worths = [[5, 5], [5, 5]]
        self.assertEqual(self.check(House([2, 2], worths, 0), ["a", "b"], [(0, 1)]), [0, 0])
        worths = [[5, 5], [5, 6]]
        self.assertEqual(self.check(House([2, 2], worths, 0), ["a", "b"], [(0, 1)]), [1, 1])
        worths = [[6, 5], [5, 6]]
        self.assertEqual(self.check(House([2, 2], worths, 0), ["a", "b"], [(0, 1)]), [0, 1])
        numbers = Numbers(111)
        for turn in range(20):
            beds = [[1, 2, 1, 2], [3, 1, 1, 1], [1, 1, 1, 1, 1]][turn % 3]
            house, way = planted(numbers, beds, 4, 30)
            pairs = made_pairs(numbers, 4, 6)
            self.assertEqual(near_way(house, [["a", "b"][numbers.below(2)] for room in beds], pairs), way)

    def test_small_houses(self):
        numbers = Numbers(112)
        seen = {}
        for turn in range(400):
            # No more than 200 lists of rooms, so never TooMany.
            people, rooms = [(4, 3), (3, 5), (2, 6), (4, 2), (1, 4), (5, 2)][turn % 6]
            house = made_house(numbers, made_beds(numbers, rooms, people), people, [1, 0, 2, 1][turn % 4])
            wings = [["a", "b", "c"][numbers.below(3)] for room in range(rooms)]
            pairs = made_pairs(numbers, people, numbers.between(0, 6))
            way = self.check(house, wings, pairs)
            ways = best_ways(house)
            counts = [count_near(other, wings, pairs) for other in ways]
            self.assertEqual(way, ways[counts.index(max(counts))], (values(house), wings, pairs))
            moved = way != ways[0]
            several = counts.count(max(counts)) > 1
            seen[("moved", moved)] = seen.get(("moved", moved), 0) + 1
            seen[("several", several)] = seen.get(("several", several), 0) + 1
        self.assertGreater(min(seen.values()), 40, seen)

    def test_ten_rooms_and_ten_people(self):
        numbers = Numbers(113)
        for turn in range(6):
            house, way = planted(numbers, [1, 2] * 5, 10, 1000)
            wings = [["a", "b"][numbers.below(2)] for room in range(10)]
            self.assertEqual(self.check(house, wings, made_pairs(numbers, 10, 45)), way)
        # Persons 0 and 1, 2 and 3, 4 and 5 like the same two rooms just as much; the others like one each.
        worths = [[9 if room // 2 == person // 2 else 0 for room in range(10)] for person in range(6)]
        worths = worths + [[9 if room == person else -9 for room in range(10)] for person in range(6, 10)]
        house = House([1] * 10, worths, 50)
        wings = list("abbaabbacc")
        self.assertEqual(self.check(house, wings, [(0, 2), (5, 3), (4, 0)]), [0, 1, 3, 2, 4, 5, 6, 7, 8, 9])
        # Here no way has all three; of two that have two the first one is told.
        self.assertEqual(self.check(house, wings, [(0, 2), (3, 5), (4, 1)]), [0, 1, 2, 3, 5, 4, 6, 7, 8, 9])

    def test_amounts_of_forty_figures(self):
        for amount in [GREAT, -GREAT]:
            house = same_worths([1, 1, 1], 3, amount)
            self.assertEqual(self.check(house, ["a", "b", "a"], [(0, 1)]), [0, 2, 1])
        house = House([2, 2], [[GREAT, GREAT - 1], [GREAT - 1, GREAT]], GREAT)
        self.assertEqual(self.check(house, ["a", "b"], [(0, 1)]), [0, 1])

    def test_too_many(self):
        # 10 * 10 * 2 lists are looked through, 10 * 7 * 3 aren't, whatever the pairs.
        wings = list("aabbaabbab")
        for pairs in [[], [(0, 1)], [(2, 0), (1, 2)]]:
            self.check(tied_house([10, 10, 2], 10), wings, pairs)
            with self.assertRaises(TooMany) as caught:
                near_way(tied_house([10, 7, 3], 10), wings, pairs)
            self.assertIsInstance(caught.exception, RentError)
        with self.assertRaises(TooMany):
            near_way(same_worths([1] * 10, 10), ["a"] * 10, [])

    def test_too_many_just_where_all_ways_is_refused(self):
        numbers = Numbers(114)
        seen = {True: 0, False: 0}
        for turn in range(40):
            people = numbers.between(4, 6)
            house = made_house(numbers, made_beds(numbers, 4, people), people, turn % 2)
            lists = 1
            for rooms in level_rooms(house):
                lists = lists * len(rooms)
            wings = ["a", "b", "a", "b"]
            pairs = made_pairs(numbers, people, 4)
            seen[lists > 200] = seen[lists > 200] + 1
            if lists > 200:
                self.assertRaises(TooMany, near_way, house, wings, pairs)
            else:
                self.check(house, wings, pairs)
        self.assertGreater(min(seen.values()), 3, seen)


class Own(unittest.TestCase):
    def house(self):
        return House([1, 2], [[5, 5], [5, 5], [5, 5]], 7)

    def test_what_is_handed_in_stays_as_it_was(self):
        house = self.house()
        way = [1, 0, 1]
        wings = ["a", "b"]
        pairs = [(2, 0), (0, 1)]
        near_count(way, wings, pairs)
        near_way(house, wings, pairs)
        self.assertEqual((way, wings, pairs), ([1, 0, 1], ["a", "b"], [(2, 0), (0, 1)]))
        self.assertEqual(values(house), values(self.house()))

    def test_the_list_told_is_the_askers_own(self):
        house = self.house()
        wings = ["a", "b"]
        pairs = [(2, 0)]
        first = near_way(house, wings, pairs)
        again = near_way(house, wings, pairs)
        self.assertIsNot(first, again)
        for one in [first, again]:
            self.assertFalse(any(one is other for other in [wings, pairs, house.beds, house.worths] + house.worths))
        first.append(7)
        first[0] = 5
        self.assertEqual((again, near_way(house, wings, pairs)), ([1, 0, 1], [1, 0, 1]))
        self.assertEqual(worth(house, again), 15)
        self.assertEqual((wings, pairs, values(house)), (["a", "b"], [(2, 0)], values(self.house())))


if __name__ == "__main__":
    unittest.main()
