"""Points 20 to 24: purses, papers and their bounds, and the prices within; points 1 and 3 for them."""

import itertools
import unittest
from fractions import Fraction

from houses import (GREAT, Numbers, all_unlike, best_ways, drawn_prices, empty_ones_cost_least, gain_of,
                    in_lowest_terms, is_fair, lists_in, made_beds, made_house, planted, share_list, tied_house, values,
                    worth)
from rentshare.aims import Worst
from rentshare.divide import divide
from rentshare.errors import NoAmount, NoLine, RentError, TooFew, TooMany
from rentshare.house import House
from rentshare.purses import row_bound, within, within_any

WAY = [0, 1, 2, 2]
PURSES = [50, None, 40, 30]


def four_people():
    # By WAY rooms 0 and 1 are full, room 2 is open and taken, room 3 is empty. No way has a greater worth.
    return House([1, 1, 3, 1], [[90, 40, 30, 20], [70, 80, 10, 50], [60, 35, 75, 5], [15, 25, 65, 45]], 120)


def two_people():
    # The shares sum to 6, that of person 0 is no more than 1 below that of person 1, and no more than 4 above it.
    return House([1, 1], [[10, 4], [6, 5]], 9)


def row_asks(house, way, purses, row, person):
    """What the row asks for, by the words of point 21; the row is one for the person."""
    chain = row[-1]
    gain = gain_of(Worst(house, way), chain, person)
    if row[0] == "free":
        return gain
    k = row[1]
    if purses[k] is None or k != (chain[0][0] if chain else person):
        return None
    return house.worths[k][way[k]] - purses[k] + gain


def drawn_purses(numbers, house, way, size, spread):
    """Purses near the prices of divide, some of them None."""
    prices = divide(Worst(house, way))[0]
    purses = []
    for room in way:
        near = prices[1][room] // prices[0]
        drawn = numbers.between(near - spread, near + 2 * spread)
        purses.append(None if numbers.below(3) == 0 else max(-size, min(size, drawn)))
    return purses


class RowBound(unittest.TestCase):
    def check(self, row, person, answer, purses=PURSES):
        told = row_bound(four_people(), WAY, purses, row, person)
        self.assertEqual(told, answer, (row, person))
        self.assertIs(type(told), type(answer), (row, person))

    def test_free_rows(self):
        for person in range(4):
            self.check(("free", []), person, 0)
        self.check(("free", [(0, 0, 1)]), 1, 70 - 90)
        self.check(("free", [(3, 2, 2)]), 2, 75 - 65)
        self.check(("free", [(0, 3, 1)]), 1, 50 - 90)
        self.check(("free", [(3, 2, 2), (2, 3, 0), (0, 0, 1)]), 1, 75 - 65 + 20 - 75 + 70 - 90)
        # Purses don't matter for them: it may begin with somebody who has none.
        self.check(("free", [(1, 1, 0)]), 0, 40 - 80)
        self.check(("free", [(1, 1, 0)]), 0, 40 - 80, [None] * 4)

    def test_purse_rows(self):
        self.check(("purse", 0, []), 0, 90 - 50)
        self.check(("purse", 2, []), 2, 75 - 40)
        self.check(("purse", 3, []), 3, 65 - 30)
        self.check(("purse", 0, [(0, 0, 1)]), 1, 90 - 50 + 70 - 90)
        self.check(("purse", 3, [(3, 2, 2)]), 2, 65 - 30 + 75 - 65)
        self.check(("purse", 3, [(3, 2, 2), (2, 3, 0), (0, 0, 1)]), 1, 65 - 30 + 75 - 65 + 20 - 75 + 70 - 90)
        # A chain may come back to the person, with a purse or without.
        self.check(("purse", 0, [(0, 0, 1), (1, 1, 0)]), 0, 90 - 50 + 70 - 90 + 40 - 80)
        self.check(("purse", 0, [(0, 0, 1), (1, 1, 0), (0, 0, 1)]), 1, 90 - 50 + 70 - 90 + 40 - 80 + 70 - 90)

    def test_bounds_of_nought_are_no_none(self):
        self.check(("purse", 0, []), 0, 0, [90, None, None, None])
        self.check(("purse", 3, [(3, 2, 2)]), 2, 0, [None, None, None, 75])
        house = House([1, 1], [[5, 5], [5, 5]], 0)
        self.assertEqual(row_bound(house, [0, 1], [0, None], ("free", [(0, 0, 1)]), 1), 0)
        # Nor is a purse of nought none.
        self.check(("purse", 0, []), 0, 90, [0, None, None, None])
        self.check(("purse", 0, [(0, 0, 1)]), 1, 70, [0, None, None, None])

    def test_purses_below_nought(self):
        self.check(("purse", 0, []), 0, 90 + 7, [-7, None, None, None])
        self.check(("purse", 0, [(0, 0, 1)]), 1, 7 + 70, [-7, None, None, None])

    def test_great_amounts(self):
        house = House([1, 1], [[GREAT, -GREAT], [-GREAT, GREAT]], 0)
        self.assertEqual(row_bound(house, [0, 1], [-GREAT, None], ("purse", 0, []), 0), 2 * GREAT)
        self.assertEqual(row_bound(house, [0, 1], [-GREAT, None], ("purse", 0, [(0, 0, 1)]), 1), 0)
        self.assertEqual(row_bound(house, [0, 1], [GREAT, None], ("purse", 0, [(0, 0, 1)]), 1), -2 * GREAT)
        self.assertEqual(row_bound(house, [0, 1], [None, None], ("free", [(0, 0, 1)]), 1), -2 * GREAT)

    def test_no_chain_to_the_person(self):
        for chain, person in [([(0, 0, 1)], 0), ([(0, 0, 1)], 2), ([(0, 1, 1)], 1), ([(0, 3, 0)], 0),
                              ([(3, 2, 2), (0, 0, 1)], 1), ([(0, 0, 1), (3, 2, 2)], 2), ([(0, 3, 3), (3, 0, 1)], 1),
                              ([(0, 0, 1), (1, 1, 0)], 1)]:
            self.check(("free", chain), person, None)
            self.check(("purse", chain[0][0], chain), person, None)

    def test_the_chain_doesnt_begin_with_k(self):
        chain = [(3, 2, 2), (2, 3, 0), (0, 0, 1)]
        self.check(("free", chain), 1, -65)
        self.check(("purse", 3, chain), 1, 65 - 30 - 65)
        for k in [0, 1, 2]:
            self.check(("purse", k, chain), 1, None)
            self.check(("purse", k, chain), 1, None, [50, 60, 40, 30])
        # Not where k has the last hop, nor where k is the person themself.
        self.check(("purse", 2, [(3, 2, 2)]), 2, None)
        self.check(("purse", 0, [(2, 3, 0), (0, 0, 1)]), 1, None)

    def test_an_empty_chain_where_k_is_somebody_else(self):
        for person in range(4):
            for k in range(4):
                if k != person:
                    self.check(("purse", k, []), person, None)
                    self.check(("purse", k, []), person, None, [50, 60, 40, 30])

    def test_k_without_a_purse(self):
        self.check(("purse", 1, []), 1, None)
        self.check(("purse", 1, [(1, 1, 0)]), 0, None)
        self.check(("purse", 1, [(1, 1, 0), (0, 0, 1)]), 1, None)
        for k in range(4):
            self.check(("purse", k, []), k, None, [None] * 4)
        # With a purse they are rows.
        self.check(("purse", 1, []), 1, 80 - 60, [None, 60, None, None])
        self.check(("purse", 1, [(1, 1, 0)]), 0, 80 - 60 + 40 - 80, [None, 60, None, None])

    def test_k_is_nobody(self):
        for k in [-1, -2, -3, -4, -5, 4, 5, GREAT, -GREAT, 10 ** 60, -(10 ** 60)]:
            for person in range(4):
                self.check(("purse", k, []), person, None)
                self.check(("purse", k, []), person, None, [50, 60, 40, 30])
                self.check(("purse", k, [(k, 3, person)]), person, None)
                self.check(("purse", k, [((person + 1) % 4, 3, person)]), person, None)
            # Below nought they would be places from the end, if they were taken as they are.
            self.check(("purse", k, [(k, 2, 0), (0, 0, 1)]), 1, None)
            self.check(("purse", k, [(0, 0, 1)]), 1, None)
            self.check(("purse", k, [(3, 2, 2)]), 2, None)

    def test_rooms_and_people_in_the_chain_that_are_not_there(self):
        for number in [-1, -2, -3, -4, -5, 4, 5, GREAT, -GREAT, 10 ** 60]:
            for chain in [[(0, number, 1)], [(number, 3, 1)], [(0, 0, number)], [(2, 3, number), (number, 0, 1)],
                          [(2, number, 0), (0, 0, 1)], [(number, number, number)]]:
                self.check(("free", chain), 1, None)
                self.check(("purse", chain[0][0], chain), 1, None)
                self.check(("purse", 0, chain), 1, None)

    def test_two_hundred_hops(self):
        chain = [(0, 0, 1), (1, 1, 0)] * 100
        self.check(("free", chain), 0, -6000)
        self.check(("purse", 0, chain), 0, -6000 + 90 - 50)
        self.check(("free", chain), 1, None)
        self.check(("purse", 0, chain), 1, None)
        self.check(("purse", 1, chain), 0, None, [50, 60, 40, 30])

    def test_all_short_rows(self):
        numbers = Numbers(80)
        seen = {True: 0, False: 0}
        for turn in range(8):
            house = made_house(numbers, made_beds(numbers, 2, 3), 3, 20)
            way = best_ways(house)[0]
            purses = [None if numbers.below(3) == 0 else numbers.between(-20, 20) for person in range(3)]
            tuples = list(itertools.product(range(3), range(2), range(3)))
            chains = [[]] + [[one] for one in tuples] + [[one, other] for one in tuples for other in tuples]
            for chain in chains:
                person = numbers.below(3)
                for row in [("free", chain)] + [("purse", k, chain) for k in range(3)]:
                    if gain_of(Worst(house, way), chain, person) is None:
                        answer = None
                    else:
                        answer = row_asks(house, way, purses, row, person)
                    self.assertEqual(row_bound(house, way, purses, row, person), answer, (values(house), row))
                    seen[answer is None] += 1
        self.assertGreater(min(seen.values()), 100)


class Checks(unittest.TestCase):
    def check_paper(self, house, way, purses, paper):
        """What all rows ask for; each is shown to be a right one."""
        self.assertIs(type(paper), list)
        self.assertEqual(len(paper), len(way))
        asked = []
        for person, row in enumerate(paper):
            self.assertIs(type(row), tuple)
            self.assertIn((row[0], len(row)), [("free", 2), ("purse", 3)])
            self.assertIs(type(row[-1]), list)
            self.assertTrue(all(type(hop) is tuple for hop in row[-1]))
            self.assertIsNotNone(gain_of(Worst(house, way), row[-1], person))
            asked.append(row_asks(house, way, purses, row, person))
            self.assertEqual(row_bound(house, way, purses, row, person), asked[-1])
        self.assertNotIn(None, asked)
        return asked

    def check_kept(self, house, way, purses, prices, paper):
        told = (values(house), way, purses, prices, paper)
        self.assertIs(type(prices), tuple)
        self.assertEqual([type(thing) for thing in prices], [int, list])
        self.assertTrue(is_fair(house, way, prices), told)
        self.assertTrue(self.keep(way, purses, prices), told)
        self.assertTrue(in_lowest_terms(prices), told)
        self.assertLessEqual(prices[0], 10000)
        self.assertTrue(empty_ones_cost_least(way, prices), told)
        asked = self.check_paper(house, way, purses, paper)
        free = [row[0] for row in paper].count("free")
        self.assertGreater(free, 0, told)
        # No prices within the purses do better, as the paper shows.
        bound = Fraction(worth(house, way) - house.rent - sum(asked), free)
        self.assertEqual(min(share_list(house, way, prices)), bound, told)

    def check_none(self, house, way, purses, paper):
        self.assertEqual([row[0] for row in paper], ["purse"] * len(way))
        asked = self.check_paper(house, way, purses, paper)
        self.assertGreater(sum(asked), worth(house, way) - house.rent, (values(house), way, purses, paper))

    def keep(self, way, purses, prices):
        bounds = zip(way, purses)
        return all(purse is None or prices[1][room] <= prices[0] * purse for room, purse in bounds)

    def check(self, house, way, purses):
        told = within(house, way, purses)
        self.assertIs(type(told), tuple)
        self.assertIn((told[0], len(told)), [("kept", 3), ("none", 2)])
        self.assertTrue(all_unlike(told))
        if told[0] == "kept":
            self.check_kept(house, way, purses, told[1], told[2])
        else:
            self.check_none(house, way, purses, told[1])
        return told


class Within(Checks):
    def test_no_purses_at_all(self):
        self.assertEqual(within(House([1], [[5]], 2), [0], [None]), ("kept", (1, [2]), [("free", [])]))
        numbers = Numbers(81)
        for turn in range(40):
            people = numbers.between(1, 7)
            house, way = planted(numbers, made_beds(numbers, 5, people), people, [6, 1000, 10 ** 39 * 4][turn % 3])
            told = self.check(house, way, [None] * people)
            self.assertEqual(told[:2], ("kept", divide(Worst(house, way))[0]))
            self.assertEqual([row[0] for row in told[2]], ["free"] * people)

    def test_purses_that_are_wide(self):
        numbers = Numbers(82)
        for turn in range(20):
            people = numbers.between(1, 7)
            house, way = planted(numbers, made_beds(numbers, 5, people), people, [6, 1000][turn % 2])
            prices = divide(Worst(house, way))[0]
            for purse in [20000, 10 ** 20, GREAT]:
                told = self.check(house, way, [purse] * people)
                self.assertEqual(told[:2], ("kept", prices))
                told = self.check(house, way, [purse] + [None] * (people - 1))
                self.assertEqual(told[:2], ("kept", prices))
            # Just as wide as the prices ask, to the next whole hundredth.
            told = self.check(house, way, [-(-prices[1][room] // prices[0]) for room in way])
            self.assertEqual(told[:2], ("kept", prices))

    def test_purses_that_bind(self):
        # Without purses both have 3. Whatever is less than 7 for person 0 is the other one's burden.
        for purse, prices in [(8, [7, 2]), (7, [7, 2]), (6, [6, 3]), (5, [5, 4])]:
            told = self.check(two_people(), [0, 1], [purse, None])
            self.assertEqual(told[:2], ("kept", (1, prices)))
        self.assertEqual(within(two_people(), [0, 1], [6, None]),
                         ("kept", (1, [6, 3]), [("purse", 0, []), ("free", [])]))
        for purse, prices in [(3, (1, [7, 2])), (2, (1, [7, 2]))]:
            told = self.check(two_people(), [0, 1], [None, purse])
            self.assertEqual(told[:2], ("kept", prices))
        self.assertEqual(self.check(two_people(), [0, 1], [5, 4])[:2], ("kept", (1, [5, 4])))
        self.assertEqual(self.check(two_people(), [0, 1], [6, 4])[:2], ("kept", (1, [6, 3])))

    def test_a_purse_that_no_fair_prices_keep(self):
        told = self.check(two_people(), [0, 1], [4, None])
        self.assertEqual(told, ("none", [("purse", 0, []), ("purse", 0, [(0, 0, 1)])]))
        # Person 1 pays 3/2 at the least.
        told = self.check(two_people(), [0, 1], [None, 1])
        self.assertEqual(told, ("none", [("purse", 1, [(1, 1, 0)]), ("purse", 1, [])]))
        self.assertEqual(self.check(two_people(), [0, 1], [None, -100])[0], "none")

    def test_purses_that_hold_through_others(self):
        house = House([1, 1, 1], [[30, 0, 0], [28, 30, 0], [0, 28, 30]], 60)
        for purses in [[None, None, None], [20, None, None], [24, None, None]]:
            self.assertEqual(self.check(house, [0, 1, 2], purses)[:2], ("kept", (1, [20, 20, 20])))
        # At 18, room 0 would leave 10 to person 1; at 20, room 1 would leave 8 to person 2: that is just what there is.
        told = self.check(house, [0, 1, 2], [18, None, None])
        self.assertEqual(told, ("kept", (1, [18, 20, 22]),
                                [("purse", 0, []), ("purse", 0, [(0, 0, 1)]), ("free", [])]))
        self.assertEqual(self.check(house, [0, 1, 2], [17, None, None]),
                         ("none", [("purse", 0, []), ("purse", 0, [(0, 0, 1)]),
                                   ("purse", 0, [(0, 0, 1), (1, 1, 2)])]))

    def test_what_is_left_is_parted_evenly(self):
        # One pays 7 less than their part, the three others 7/3 more.
        worths = [[90 if room == person else 0 for room in range(4)] for person in range(4)]
        house = House([1] * 4, worths, 40)
        for person in range(4):
            purses = [None] * 4
            purses[person] = 3
            rows = [37] * 4
            rows[person] = 9
            told = self.check(house, list(range(4)), purses)
            self.assertEqual(told[:2], ("kept", (3, rows)))
            self.assertEqual(told[2], [("purse", one, []) if one == person else ("free", []) for one in range(4)])
        told = self.check(house, list(range(4)), [3, 4, None, None])
        self.assertEqual(told[:2], ("kept", (2, [6, 8, 33, 33])))
        told = self.check(house, list(range(4)), [3, 4, 5, None])
        self.assertEqual(told[:2], ("kept", (1, [3, 4, 5, 28])))
        # A purse that only binds when another one does.
        told = self.check(house, list(range(4)), [3, 12, None, None])
        self.assertEqual(told[:2], ("kept", (2, [6, 24, 25, 25])))
        self.assertEqual(self.check(house, list(range(4)), [None, 12, None, None])[:2], ("kept", (1, [10] * 4)))

    def test_ten_parts_and_fewer(self):
        worths = [[900 if room == person else 0 for room in range(10)] for person in range(10)]
        house = House([1] * 10, worths, 101)
        for count in range(10):
            told = self.check(house, list(range(10)), [1] * count + [None] * (10 - count))
            each = Fraction(101 - count, 10 - count)
            self.assertEqual(told[1][0], each.denominator)
            self.assertEqual([Fraction(row, told[1][0]) for row in told[1][1]], [1] * count + [each] * (10 - count))

    def test_two_in_one_room(self):
        # Both pay what the one with the purse can pay.
        house = House([2, 1], [[20, 0], [30, 0], [0, 25]], 30)
        told = self.check(house, [0, 0, 1], [8, None, None])
        self.assertEqual(told[:2], ("kept", (1, [8, 14])))
        told = self.check(house, [0, 0, 1], [None, 8, None])
        self.assertEqual(told[:2], ("kept", (1, [8, 14])))

    def test_open_and_empty_rooms(self):
        # No open room may cost more than a taken one: so what holds room 1 down holds the empty room 2 down, which is
        # worth nearly as much to person 0 as room 0.
        house = House([1, 1, 1], [[30, 0, 28], [0, 30, 0]], 20)
        self.assertEqual(self.check(house, [0, 1], [None, None])[:2], ("kept", (1, [10, 10, 10])))
        self.assertEqual(self.check(house, [0, 1], [None, 9])[:2], ("kept", (1, [11, 9, 9])))
        self.assertEqual(self.check(house, [0, 1], [None, 8]),
                         ("none", [("purse", 1, [(1, 2, 0)]), ("purse", 1, [])]))

    def test_just_as_great_as_fair_prices(self):
        numbers = Numbers(83)
        found = 0
        for turn in range(30):
            people = numbers.between(1, 4)
            house = made_house(numbers, made_beds(numbers, 3, people), people, 5,
                               rent=people * numbers.between(-4, 4))
            way = best_ways(house)[0]
            for prices in list(drawn_prices(house, way, 6))[::7]:
                costs = [Fraction(prices[1][room], prices[0]) for room in way]
                if any(cost.denominator > 1 for cost in costs):
                    continue
                found += 1
                purses = [int(cost) for cost in costs]
                told = self.check(house, way, purses)
                self.assertEqual(told[0], "kept")
                self.assertEqual([Fraction(told[1][1][room], told[1][0]) for room in way], costs)
                for person in range(people):
                    purses[person] -= 1
                    self.assertEqual(self.check(house, way, purses)[0], "none")
                    purses[person] += 1
        self.assertGreater(found, 20)

    def test_the_least_that_somebody_can_pay(self):
        numbers = Numbers(84)
        for turn in range(30):
            people = numbers.between(2, 3)
            house = made_house(numbers, made_beds(numbers, 3, people), people, 5, rent=numbers.between(-9, 9))
            way = best_ways(house)[0]
            drawn = list(drawn_prices(house, way, 11))
            for person in range(people):
                least = min(Fraction(prices[1][way[person]], prices[0]) for prices in drawn)
                purses = [None] * people
                purses[person] = -(-least.numerator // least.denominator)
                self.assertEqual(self.check(house, way, purses)[0], "kept", (values(house), way, purses))
                purses[person] -= 1
                self.assertEqual(self.check(house, way, purses)[0], "none", (values(house), way, purses))

    def test_purses_that_sum_to_less_than_the_rent(self):
        numbers = Numbers(85)
        for turn in range(30):
            people = numbers.between(1, 6)
            size = [6, 1000, 10 ** 39 * 4][turn % 3]
            house, way = planted(numbers, made_beds(numbers, 5, people), people, size)
            each = house.rent // people
            self.assertEqual(self.check(house, way, [each] * (people - 1) + [each - 1])[0], "none")

    def test_one_person(self):
        house = House([1, 2], [[5, 3]], 7)
        for purse in [7, 8, GREAT]:
            self.assertEqual(self.check(house, [0], [purse])[:2], ("kept", (1, [7, 7])))
        for purse in [6, 0, -1, -GREAT]:
            self.assertEqual(self.check(house, [0], [purse]), ("none", [("purse", 0, [])]))

    def test_nought_and_below(self):
        house = House([1, 1], [[10, 0], [0, 10]], 0)
        self.assertEqual(self.check(house, [0, 1], [0, None])[:2], ("kept", (1, [0, 0])))
        self.assertEqual(self.check(house, [0, 1], [-3, None])[:2], ("kept", (1, [-3, 3])))
        self.assertEqual(self.check(house, [0, 1], [-5, None])[:2], ("kept", (1, [-5, 5])))
        self.assertEqual(self.check(house, [0, 1], [-6, None])[0], "none")
        self.assertEqual(self.check(house, [0, 1], [0, -1])[0], "none")
        house = House([1, 1], [[10, 0], [0, 10]], -20)
        self.assertEqual(self.check(house, [0, 1], [-12, None])[:2], ("kept", (1, [-12, -8])))
        self.assertEqual(self.check(house, [0, 1], [0, 0])[:2], ("kept", (1, [-10, -10])))

    def test_the_greatest_amounts(self):
        house = House([1, 1], [[GREAT, -GREAT], [-GREAT, GREAT]], GREAT)
        self.assertEqual(self.check(house, [0, 1], [None, None])[:2], ("kept", (2, [GREAT, GREAT])))
        self.assertEqual(self.check(house, [0, 1], [0, None])[:2], ("kept", (1, [0, GREAT])))
        self.assertEqual(self.check(house, [0, 1], [0, GREAT])[:2], ("kept", (1, [0, GREAT])))
        self.assertEqual(self.check(house, [0, 1], [0, GREAT - 1])[0], "none")
        least = (1 - GREAT) // 2
        self.assertEqual(self.check(house, [0, 1], [least, None])[:2], ("kept", (1, [least, GREAT - least])))
        self.assertEqual(self.check(house, [0, 1], [least - 1, None])[0], "none")
        self.assertEqual(self.check(house, [0, 1], [-GREAT, -GREAT])[0], "none")
        house = House([1, 1], [[GREAT, -GREAT], [-GREAT, GREAT]], -GREAT)
        self.assertEqual(self.check(house, [0, 1], [-GREAT, None])[:2], ("kept", (1, [-GREAT, 0])))

    def test_small_houses(self):
        numbers = Numbers(86)
        seen = {}
        for turn in range(400):
            people = numbers.between(1, 4)
            size = [3, 12, 40][turn % 3]
            house = made_house(numbers, made_beds(numbers, numbers.between(1, 4), people), people, size,
                               rent=numbers.between(-20, 20))
            way = numbers.mixed(best_ways(house))[0]
            purses = drawn_purses(numbers, house, way, 100, [1, 4, 15][turn % 3])
            told = self.check(house, way, purses)
            for thing in self.things(told):
                seen[thing] = seen.get(thing, 0) + 1
        for thing in ["kept", "none", ("free", 0), ("free", 1), ("free", 2), ("purse", 0), ("purse", 1), ("parts", 1),
                      ("parts", 2), ("parts", 3), "mixed", "empty"]:
            self.assertGreater(seen.get(thing, 0), 5, (thing, seen))
        self.assertGreater(seen.get(("purse", 2), 0), 0)

    def things(self, told):
        found = [told[0]]
        paper = told[-1]
        for row in paper:
            found.append((row[0], len(row[-1])))
        if told[0] == "kept":
            found.append(("parts", told[1][0]))
            if len({row[0] for row in paper}) == 2:
                found.append("mixed")
            if len(told[1][1]) > len(paper):
                found.append("empty")
        return found

    def test_no_drawn_prices_do_better(self):
        numbers = Numbers(87)
        found = {"kept": 0, "none": 0}
        for turn in range(60):
            people = numbers.between(2, 4)
            house = made_house(numbers, made_beds(numbers, 3, people), people, 4, rent=numbers.between(-9, 9))
            way = best_ways(house)[0]
            drawn = list(drawn_prices(house, way, 9))
            for again in range(3):
                purses = drawn_purses(numbers, house, way, 100, 2)
                told = self.check(house, way, purses)
                fit = [prices for prices in drawn if self.keep(way, purses, prices)]
                found[told[0]] += 1
                if told[0] == "none":
                    self.assertEqual(fit, [], (values(house), way, purses))
                    continue
                least = min(share_list(house, way, told[1]))
                for prices in fit:
                    had = share_list(house, way, prices)
                    self.assertLessEqual(min(had), least, (values(house), purses))
                    self.check_shares(house, way, purses, told[2], had)
        self.assertGreater(min(found.values()), 10)

    def check_shares(self, house, way, purses, paper, had):
        """What point 22 says of the shares by any fair prices that keep the purses."""
        for person, row in enumerate(paper):
            above = min(had) if row[0] == "free" else 0
            self.assertGreaterEqual(had[person], row_bound(house, way, purses, row, person) + above)

    def test_ten_rooms_and_ten_people(self):
        numbers = Numbers(88)
        found = {"kept": 0, "none": 0}
        for size in [8, 1000, 10 ** 39 * 4]:
            for beds in [[1] * 10, [1, 2] * 5, [1, 1, 4, 1, 1, 1, 2, 1, 1, 1]]:
                house, way = planted(numbers, beds, 10, size)
                for part in [16, 4, 2, 1]:
                    purses = drawn_purses(numbers, house, way, GREAT, size // part)
                    found[self.check(house, way, purses)[0]] += 1
        self.assertGreater(min(found.values()), 3, found)

    def test_long_chains(self):
        # The share rises by 1 from each to the one behind; a purse of the first one holds everybody.
        for order in [list(range(10)), list(range(10))[::-1], [4, 7, 0, 9, 2, 5, 1, 8, 3, 6]]:
            worths = [[-1000] * 10 for person in range(10)]
            for person in range(10):
                worths[person][person] = 0
            for one, following in zip(order, order[1:]):
                worths[following][one] = 1
            house = House([1] * 10, worths, 55)
            purses = [None] * 10
            purses[order[0]] = 10
            told = self.check(house, list(range(10)), purses)
            self.assertEqual(told[:2], ("kept", (1, [10 - order.index(room) for room in range(10)])))
            purses[order[0]] = 9
            told = self.check(house, list(range(10)), purses)
            self.assertEqual(told[0], "none")
            self.assertEqual([len(told[1][person][2]) for person in order], list(range(10)))


class WithinAny(Checks):
    def check_any(self, house, purses):
        """Held against within for each way, which is shown to be right itself."""
        told = within_any(house, purses)
        self.assertIs(type(told), tuple)
        self.assertTrue(all_unlike(told))
        ways = best_ways(house)
        answers = [self.check(house, way, purses) for way in ways]
        least = [min(share_list(house, way, answer[1])) if answer[0] == "kept" else None
                 for way, answer in zip(ways, answers)]
        if least == [None] * len(ways):
            self.assertEqual((told[0], len(told)), ("none", 2))
            self.assertIs(type(told[1]), list)
            self.assertEqual([type(pair) for pair in told[1]], [tuple] * len(ways))
            self.assertEqual([pair[0] for pair in told[1]], ways)
            for way, paper in told[1]:
                self.check_none(house, way, purses, paper)
            return told, least
        most = max(share for share in least if share is not None)
        place = least.index(most)
        self.assertEqual((told[0], len(told)), ("kept", 4))
        self.assertEqual(told[1:3], (ways[place], answers[place][1]), (values(house), purses))
        self.check_kept(house, told[1], purses, told[2], told[3])
        return told, least

    def tied(self, rent=10):
        # Room 0 costs 6 more than room 1, whoever lies there.
        return House([1, 1], [[10, 4], [10, 4]], rent)

    def test_one_way(self):
        self.assertEqual(within_any(House([1], [[5]], 2), [None]), ("kept", [0], (1, [2]), [("free", [])]))
        self.assertEqual(within_any(House([1], [[5]], 2), [1]), ("none", [([0], [("purse", 0, [])])]))
        self.assertEqual(within_any(two_people(), [6, None]),
                         ("kept", [0, 1], (1, [6, 3]), [("purse", 0, []), ("free", [])]))

    def test_the_first_of_those_that_are_equal(self):
        told = self.check_any(self.tied(), [None, None])[0]
        self.assertEqual(told[:3], ("kept", [0, 1], (1, [8, 2])))
        told = self.check_any(self.tied(), [8, 8])[0]
        self.assertEqual(told[:3], ("kept", [0, 1], (1, [8, 2])))
        told = self.check_any(tied_house([3, 3, 3], 3, rent=9), [None, None, None])[0]
        self.assertEqual(told[:3], ("kept", [0, 1, 2], (1, [3, 3, 3])))

    def test_one_way_alone_keeps_the_purses(self):
        told = self.check_any(self.tied(), [None, 7])[0]
        self.assertEqual(told[:3], ("kept", [0, 1], (1, [8, 2])))
        told = self.check_any(self.tied(), [7, None])[0]
        self.assertEqual(told[:3], ("kept", [1, 0], (1, [8, 2])))
        told = self.check_any(self.tied(), [2, 8])[0]
        self.assertEqual(told[:3], ("kept", [1, 0], (1, [8, 2])))

    def test_none_for_each_way(self):
        told = self.check_any(self.tied(), [7, 7])[0]
        self.assertEqual(told[0], "none")
        self.assertEqual([pair[0] for pair in told[1]], [[0, 1], [1, 0]])
        told = self.check_any(self.tied(), [1, None])[0]
        self.assertEqual([pair[0] for pair in told[1]], [[0, 1], [1, 0]])

    def three_rooms(self):
        # People 0 and 1 are tied over rooms 0 and 1, which lie 6 apart; room 2 may be cheaper or dearer.
        return House([1, 1, 1], [[40, 34, 0], [40, 34, 0], [0, 0, 40]], 30)

    def test_a_later_way_is_better(self):
        # By both ways the purse is kept, but in room 0 it binds.
        told, least = self.check_any(self.three_rooms(), [9, None, None])
        self.assertEqual(told[:3], ("kept", [1, 0, 2], (1, [12, 6, 12])))
        self.assertLess(least[0], least[1])

    def test_an_earlier_way_is_better(self):
        told, least = self.check_any(self.three_rooms(), [None, 9, None])
        self.assertEqual(told[1], [0, 1, 2])
        self.assertGreater(least[0], least[1])

    def test_several_ways_are_equally_good(self):
        # Person 0 can pay for rooms 1 and 2, but in room 0 the purse binds: of the six ways the last four are best.
        house = House([1] * 4, [[40, 34, 33, 0], [40, 34, 33, 0], [40, 34, 33, 0], [0, 0, 0, 40]], 47)
        told, least = self.check_any(house, [9, None, None, None])
        self.assertEqual(told[:3], ("kept", [1, 0, 2, 3], (1, [15, 9, 8, 15])))
        self.assertEqual([least[place] < 25 for place in range(6)], [True] * 2 + [False] * 4)
        # Person 1 likewise: the first way by which they don't lie in room 0 is the first one of all.
        told, least = self.check_any(house, [None, 9, None, None])
        self.assertEqual(told[:3], ("kept", [0, 1, 2, 3], (1, [15, 9, 8, 15])))
        self.assertEqual([share == max(least) for share in least], [True, True, False, True, False, True])

    def test_small_houses(self):
        numbers = Numbers(89)
        seen = {}
        for turn in range(150):
            people = numbers.between(2, 4)
            house = self.alike(numbers, people, numbers.between(2, min(3, people)))
            ways = best_ways(house)
            purses = drawn_purses(numbers, house, numbers.mixed(ways)[0], 100, numbers.between(1, 5))
            for thing in self.what(self.check_any(house, purses)[1]):
                seen[thing] = seen.get(thing, 0) + 1
        for thing in ["none", "first", "later", "several", "some"]:
            self.assertGreater(seen.get(thing, 0), 5, seen)

    def alike(self, numbers, people, same):
        """The first people tell the same worths of as many rooms, each other one likes a room of their own best."""
        row = [numbers.between(20, 32) for room in range(same)] + [0] * (people - same)
        worths = [row for person in range(same)]
        for person in range(same, people):
            worths.append([30 if room == person else numbers.between(0, 9) for room in range(people)])
        return House([1] * people, worths, numbers.between(-20, 60))

    def what(self, least):
        told = [share for share in least if share is not None]
        if not told:
            return ["none"]
        found = ["first" if least[0] == max(told) else "later"]
        if told.count(max(told)) > 1 and min(told) < max(told):
            found.append("several")
        if None in least:
            found.append("some")
        return found

    def test_ten_rooms_and_ten_people(self):
        worths = []
        for person in range(10):
            liked = [0, 1] if person < 2 else [2, 3] if person < 4 else [person]
            worths.append([50 + room if room in liked else 0 for room in range(10)])
        house = House([1] * 10, worths, 200)
        ways = [[one, 1 - one, 2 + other, 3 - other, 4, 5, 6, 7, 8, 9] for one in range(2) for other in range(2)]
        told = within_any(house, [None] * 10)
        self.assertEqual(told[:2], ("kept", ways[0]))
        prices = told[2]
        self.check_kept(house, told[1], [None] * 10, prices, told[3])
        # Who can't pay more than the cheaper room of theirs costs has that one.
        purses = [None] * 10
        purses[1] = -(-prices[1][0] // prices[0])
        purses[2] = GREAT
        told = within_any(house, purses)
        self.assertEqual(told[:3], ("kept", ways[2], prices))
        self.check_kept(house, told[1], purses, told[2], told[3])
        purses = [-1000] + [None] * 9
        told = within_any(house, purses)
        self.assertEqual(told[0], "none")
        self.assertEqual([pair[0] for pair in told[1]], ways)
        for way, paper in told[1]:
            self.check_none(house, way, purses, paper)

    def test_too_many(self):
        for house in [tied_house([10, 7, 3], 10), House([1] * 4, [[5] * 4 for person in range(4)], 0)]:
            people = len(house.worths)
            for purses in [[None] * people, [-5] * people, [GREAT] + [None] * (people - 1)]:
                with self.assertRaises(TooMany) as caught:
                    within_any(house, purses)
                for other in [NoAmount, NoLine, TooFew]:
                    self.assertNotIsInstance(caught.exception, other)
                self.assertIsInstance(caught.exception, RentError)

    def test_two_hundred_lists(self):
        house = tied_house([10, 10, 2], 10, rent=9)
        told = within_any(house, [None, None, 3])
        self.assertEqual(told[:3], ("kept", [0, 2, 1], (1, [3] * 10)))
        told = within_any(house, [2, 2, 2])
        self.assertEqual(told[0], "none")
        self.assertEqual(len(told[1]), 144)


class Own(unittest.TestCase):
    def test_what_is_handed_in_stays_as_it_was(self):
        house = two_people()
        way = [0, 1]
        for purses in [[None, None], [6, None], [5, 4], [1, None], [1, 1]]:
            handed = list(purses)
            within(house, way, handed)
            within_any(house, handed)
            self.assertEqual((handed, way), (purses, [0, 1]))
        self.assertEqual(values(house), values(two_people()))
        for row in [("free", [(0, 0, 1)]), ("purse", 0, [(0, 0, 1)]), ("purse", 1, [(0, 0, 1)]), ("purse", 0, [])]:
            chain = list(row[-1])
            purses = [6, None]
            row_bound(house, way, purses, row, 1)
            self.assertEqual(row[-1], chain)
            self.assertEqual((purses, way), ([6, None], [0, 1]))
        self.assertEqual(values(house), values(two_people()))

    def test_no_two_lists_are_one(self):
        house = two_people()
        way = [0, 1]
        for purses in [[None, None], [6, None], [5, 4], [1, None], [1, 1]]:
            told = (within(house, way, purses), within(house, way, purses), within_any(house, purses),
                    within_any(house, purses))
            self.assertTrue(all_unlike(told))
            aside = [way, purses, house.beds, house.worths] + house.worths
            for one in lists_in(told):
                self.assertFalse(any(one is other for other in aside))

    def test_told_lists_that_are_changed(self):
        house = two_people()
        for purses in [[None, None], [6, None], [1, None]]:
            first = (within(house, [0, 1], purses), within_any(house, purses))
            again = (within(house, [0, 1], purses), within_any(house, purses))
            for one in lists_in(first):
                one.append(7)
                one[0] = 5
            self.assertEqual((within(house, [0, 1], purses), within_any(house, purses)), again)
            self.assertEqual(values(house), values(two_people()))

    def test_what_is_done_later_changes_nothing_told(self):
        house = two_people()
        purses = [6, None]
        way = [0, 1]
        told = within(house, way, purses)
        purses[0] = 1
        way[0] = 1
        within(house, [0, 1], purses)
        within_any(house, purses)
        self.assertEqual(told, ("kept", (1, [6, 3]), [("purse", 0, []), ("free", [])]))


if __name__ == "__main__":
    unittest.main()
