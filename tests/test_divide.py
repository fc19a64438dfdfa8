"""Points 16 to 18: the best prices, by Worst and by Even; points 1 and 3 for them."""

import unittest
from fractions import Fraction

from houses import (GREAT, Numbers, all_unlike, best_ways, drawn_prices, empty_ones_cost_least, gain_of,
                    greatest_worth, hops, in_lowest_terms, is_fair, lists_in, made_beds, made_house, planted,
                    share_list, values, worth)
from rentshare.aims import Even, Worst
from rentshare.divide import divide, share_out
from rentshare.house import House

KINDS = {"worst": Worst, "even": Even}


def three_people():
    # Rooms 0 and 1 are full by [1, 0, 0], the only way of greatest worth.
    return House([2, 1], [[30000, 46000], [25000, 40000], [35000, 30000]], 90000)


def open_house():
    # By [0, 1, 1] room 0 is full, room 1 is open and taken, rooms 2 and 3 are empty.
    return House([1, 3, 1, 2], [[90, 40, 30, 20], [10, 80, 77, 50], [60, 75, 35, 74]], 120)


def levels_of(kind, house, way, prices):
    if kind is Worst:
        return share_list(house, way, prices)
    return [Fraction(prices[1][room], prices[0]) for room in way]


class Checks(unittest.TestCase):
    def check_kinds(self, house, prices, chains):
        self.assertIs(type(prices), tuple)
        self.assertEqual([type(thing) for thing in prices], [int, list])
        self.assertEqual(len(prices[1]), len(house.beds))
        self.assertTrue(all(type(row) is int for row in prices[1]))
        self.assertIs(type(chains), list)
        self.assertEqual(len(chains), len(house.worths))
        for chain in chains:
            self.assertIs(type(chain), list)
            self.assertTrue(all(type(hop) is tuple for hop in chain))

    def greatest_gains(self, aim, chains):
        """The gains of the chains, each of which is shown to be a chain to its person of greatest gain."""
        gains = [gain_of(aim, chain, person) for person, chain in enumerate(chains)]
        self.assertNotIn(None, gains)
        self.assertGreaterEqual(min(gains), 0)
        for hop, gain in hops(aim).items():
            self.assertGreaterEqual(gains[hop[2]], gains[hop[0]] + gain, (values(aim.house), hop))
        return gains

    def check_told(self, kind, house, way, prices, chains):
        self.check_kinds(house, prices, chains)
        told = (values(house), way, prices)
        self.assertTrue(is_fair(house, way, prices), told)
        self.assertTrue(in_lowest_terms(prices), told)
        self.assertTrue(empty_ones_cost_least(way, prices), told)
        self.assertTrue(all_unlike((prices, chains)))
        gains = self.greatest_gains(kind(house, way), chains)
        whole = worth(house, way) - house.rent if kind is Worst else house.rent
        bound = Fraction(whole - sum(gains), len(way))
        levels = levels_of(kind, house, way, prices)
        self.assertEqual(levels, [bound + gain for gain in gains], told)
        self.assertEqual(min(levels), bound, told)
        if kind is Even:
            self.assertEqual(max(levels) - min(levels), max(gains), told)

    def check(self, kind, house, way):
        told = divide(kind(house, way))
        self.assertIs(type(told), tuple)
        self.assertEqual(len(told), 2)
        self.check_told(kind, house, way, told[0], told[1])
        return told[0]

    def check_both(self, house, way):
        return [self.check(kind, house, way) for kind in [Worst, Even]]


class Divide(Checks):
    def test_one_person_and_one_room(self):
        for amount in [0, 5, -5, GREAT, -GREAT]:
            for rent in [0, 2, -7, GREAT, -GREAT]:
                for beds in range(1, 5):
                    for kind in [Worst, Even]:
                        told = divide(kind(House([beds], [[amount]], rent), [0]))
                        self.assertEqual(told, ((1, [rent]), [[]]))

    def test_one_person_and_several_rooms(self):
        house = House([1, 2, 1], [[3, 9, 4]], 7)
        self.assertEqual(self.check_both(house, [1]), [(1, [7, 7, 7]), (1, [7, 7, 7])])

    def test_one_room_and_several_people(self):
        house = House([4], [[3], [-2], [8]], 10)
        self.assertEqual(self.check_both(house, [0, 0, 0]), [(3, [10]), (3, [10])])
        house = House([3], [[3], [-2], [8]], -9)
        self.assertEqual(self.check_both(house, [0, 0, 0]), [(1, [-3]), (1, [-3])])

    def test_a_full_house(self):
        worst, even = self.check_both(three_people(), [1, 0, 0])
        self.assertEqual(worst, (3, [74000, 122000]))
        self.assertEqual(even, (1, [25000, 40000]))

    def test_two_people(self):
        # Nobody envies anybody at shares that are the same, nor at prices that are the same.
        house = House([1, 1], [[9, 1], [1, 8]], 11)
        self.assertEqual(self.check_both(house, [0, 1]), [(1, [6, 5]), (2, [11, 11])])
        # At prices that are the same, person 1 would envy person 0.
        house = House([1, 1], [[9, 4], [6, 5]], 11)
        self.assertEqual(self.check_both(house, [0, 1]), [(2, [15, 7]), (1, [6, 5])])
        # At shares that are the same, person 0 would envy person 1.
        house = House([1, 1], [[9, 6], [5, 4]], 10)
        self.assertEqual(self.check_both(house, [0, 1]), [(2, [13, 7]), (2, [11, 9])])

    def test_open_and_empty_rooms(self):
        house = open_house()
        self.assertEqual(best_ways(house), [[0, 1, 1]])
        worst, even = self.check_both(house, [0, 1, 1])
        # Person 1 pays what person 2 pays, so their share is 5 more; the shares are 40, 45 and 40.
        self.assertEqual(worst, (1, [50, 35, 35, 35]))
        self.assertEqual(even, (1, [40, 40, 40, 40]))

    def test_an_open_room_lowers_what_is_taken(self):
        # At shares that are the same, room 0 would cost 9 and room 1 would cost 4, but room 2 at 4 is worth 9 to
        # person 0, so that their share is 5 more.
        house = House([1, 1, 1], [[9, 0, 9], [0, 4, 3]], 5)
        self.assertEqual(self.check(Worst, house, [0, 1]), (2, [5, 5, 5]))
        # By Even an open room that is taken keeps the others from being cheaper than it.
        house = House([1, 2], [[5, 9], [4, 8]], 8)
        self.assertEqual(self.check_both(house, [1, 1]), [(1, [4, 4]), (1, [4, 4])])

    def test_prices_below_nought(self):
        house = House([1, 1, 1], [[9, 0, 0], [0, 2, 1], [1, 0, 2]], 4)
        self.assertEqual(self.check_both(house, [0, 1, 2]), [(1, [6, -1, -1]), (3, [4, 4, 4])])
        house = House([1, 1], [[-9, -1], [-7, -8]], -20)
        self.assertEqual(self.check_both(house, [1, 0]), [(1, [-13, -7]), (1, [-10, -10])])

    def test_lowest_terms(self):
        for rent, prices in [(0, (1, [0, 0])), (4, (1, [2, 2])), (5, (2, [5, 5])), (-5, (2, [-5, -5]))]:
            house = House([1, 1], [[7, 0], [0, 7]], rent)
            self.assertEqual(self.check_both(house, [0, 1]), [prices, prices])
        house = House([1] * 6, [[7 if room == person else 0 for room in range(6)] for person in range(6)], 4)
        self.assertEqual(self.check_both(house, list(range(6))), [(3, [2] * 6)] * 2)
        house = House([1] * 6, [[7 if room == person else 0 for room in range(6)] for person in range(6)], 3)
        self.assertEqual(self.check_both(house, list(range(6))), [(2, [1] * 6)] * 2)

    def test_small_houses(self):
        numbers = Numbers(60)
        seen = {}
        for turn in range(120):
            people = numbers.between(1, 4)
            rooms = numbers.between(1, 4)
            house = made_house(numbers, made_beds(numbers, rooms, people), people, numbers.between(1, 30),
                               rent=numbers.between(-50, 50))
            for way in best_ways(house):
                for prices in self.check_both(house, way):
                    seen["parts", prices[0]] = True
                seen["empty", len(set(way)) < rooms] = True
                seen["full", all(way.count(room) == house.beds[room] for room in range(rooms))] = True
        for thing in [("empty", True), ("empty", False), ("full", True), ("full", False), ("parts", 1), ("parts", 2),
                      ("parts", 3), ("parts", 4)]:
            self.assertIn(thing, seen)

    def test_whichever_way_the_prices_are_one(self):
        numbers = Numbers(61)
        several = 0
        for turn in range(60):
            people = numbers.between(2, 4)
            house = made_house(numbers, made_beds(numbers, 3, people), people, 2, rent=numbers.between(-9, 9))
            ways = best_ways(house)
            several += len(ways) > 1
            for kind in [Worst, Even]:
                told = [divide(kind(house, way))[0] for way in ways]
                if kind is Worst:
                    self.assertEqual(told, [told[0]] * len(told), values(house))
                for way, prices in zip(ways, told):
                    self.assertTrue(all(is_fair(house, other, prices) for other in ways), values(house))
        self.assertGreater(several, 20)

    def test_no_drawn_prices_do_better(self):
        numbers = Numbers(62)
        found = {Worst: 0, Even: 0}
        for turn in range(60):
            people = numbers.between(2, 4)
            rooms = numbers.between(2, 3)
            beds = made_beds(numbers, rooms, people) if turn % 2 else [numbers.between(1, 2) for room in range(rooms)]
            if sum(beds) < people:
                continue
            house = made_house(numbers, beds, people, 4, rent=numbers.between(-9, 9))
            way = best_ways(house)[0]
            drawn = list(drawn_prices(house, way, 9))
            for kind in [Worst, Even]:
                self.hold(kind, house, way, drawn)
                found[kind] += len(drawn)
        self.assertGreater(min(found.values()), 300)

    def hold(self, kind, house, way, drawn):
        prices = self.check(kind, house, way)
        levels = levels_of(kind, house, way, prices)
        same = 0
        for other in drawn:
            others = levels_of(kind, house, way, other)
            self.assertLessEqual(min(others), min(levels), (values(house), way, other))
            if min(others) == min(levels):
                same += 1
                self.assertEqual(others, levels, (values(house), way, other))
            if kind is Even:
                self.assertGreaterEqual(max(others) - min(others), max(levels) - min(levels))
        # The told ones lie whole hundredths apart, so they are among those drawn.
        self.assertGreater(same, 0, (values(house), way))

    def test_ten_rooms_and_ten_people(self):
        numbers = Numbers(63)
        for size in [5, 1000, 10 ** 39 * 4]:
            for beds in [[1] * 10, [1, 2] * 5, [1, 1, 4, 1, 1, 1, 2, 1, 1, 1]]:
                house, way = planted(numbers, beds, 10, size)
                self.check_both(house, way)

    def test_the_greatest_amounts(self):
        way = list(range(10))
        for rent in [GREAT, -GREAT, GREAT - 3]:
            worths = [[GREAT if room <= person else -GREAT for room in range(10)] for person in range(10)]
            self.check_both(House([1] * 10, worths, rent), way)
            worths = [[GREAT if room == person else -GREAT for room in range(10)] for person in range(10)]
            self.check_both(House([1] * 10, worths, rent), way)
            worths = [[-GREAT] * 10 for person in range(10)]
            self.check_both(House([1] * 10, worths, rent), way)
        house = House([1, 1], [[GREAT, -GREAT], [-GREAT, -GREAT]], GREAT)
        self.assertEqual(self.check_both(house, [0, 1]),
                         [(2, [3 * GREAT, -GREAT]), (2, [GREAT, GREAT])])

    def test_long_chains(self):
        for kind in [Worst, Even]:
            for order in [list(range(10)), list(range(10))[::-1], [4, 7, 0, 9, 2, 5, 1, 8, 3, 6]]:
                worths = [[-1000] * 10 for person in range(10)]
                for person in range(10):
                    worths[person][person] = 0
                for one, following in zip(order, order[1:]):
                    person, room = (following, one) if kind is Worst else (one, following)
                    worths[person][room] = 1
                prices = self.check(kind, House([1] * 10, worths, 55), list(range(10)))
                if kind is Worst:
                    # The share rises by 1 from each to the one behind, and all together are -55.
                    self.assertEqual(prices, (1, [10 - order.index(room) for room in range(10)]))
                else:
                    self.assertEqual(prices, (1, [1 + order.index(room) for room in range(10)]))


class ShareOut(Checks):
    def check_word(self, house, word):
        told = share_out(house, word)
        self.assertIs(type(told), tuple)
        self.assertEqual(len(told), 3)
        way, prices, chains = told
        self.assertIs(type(way), list)
        self.assertEqual(len(way), len(house.worths))
        self.assertEqual(worth(house, way), greatest_worth(house))
        self.check_told(KINDS[word], house, way, prices, chains)
        self.assertTrue(all_unlike(told))
        return way, prices

    def test_both_words(self):
        self.assertEqual(self.check_word(three_people(), "worst"), ([1, 0, 0], (3, [74000, 122000])))
        self.assertEqual(self.check_word(three_people(), "even"), ([1, 0, 0], (1, [25000, 40000])))
        self.assertEqual(self.check_word(open_house(), "worst"), ([0, 1, 1], (1, [50, 35, 35, 35])))
        self.assertEqual(self.check_word(open_house(), "even"), ([0, 1, 1], (1, [40, 40, 40, 40])))

    def test_one_person_and_one_room(self):
        for word in ["worst", "even"]:
            self.assertEqual(share_out(House([1], [[5]], 2), word), ([0], (1, [2]), [[]]))

    def test_a_way_that_isnt_the_first_one(self):
        house = House([1, 1, 1], [[0, 9, 1], [1, 0, 9], [9, 1, 0]], 12)
        for word in ["worst", "even"]:
            self.assertEqual(self.check_word(house, word), ([1, 2, 0], (1, [4, 4, 4])))

    def test_made_up_houses(self):
        numbers = Numbers(64)
        for turn in range(60):
            people = numbers.between(1, 6)
            size = [2, 30, 10 ** 39 * 4][turn % 3]
            house = made_house(numbers, made_beds(numbers, numbers.between(2, 5), people), people, size,
                               rent=numbers.between(-size, size))
            for word in ["worst", "even"]:
                way, prices = self.check_word(house, word)
                self.assertEqual(prices, divide(KINDS[word](house, way))[0])

    def test_ten_rooms_and_ten_people(self):
        numbers = Numbers(65)
        for size in [3, 10000, GREAT]:
            for beds in [[1] * 10, [1, 2, 1, 1, 2, 1, 1, 1, 2, 1]]:
                house = made_house(numbers, beds, 10, size, rent=size)
                for word in ["worst", "even"]:
                    self.check_word(house, word)


class Own(unittest.TestCase):
    def test_what_is_handed_in_stays_as_it_was(self):
        for kind in [Worst, Even]:
            house = open_house()
            way = [0, 1, 1]
            aim = kind(house, way)
            divide(aim)
            self.assertEqual((way, aim.way), ([0, 1, 1], [0, 1, 1]))
            self.assertIs(aim.house, house)
            self.assertEqual(values(house), values(open_house()))
        for word in ["worst", "even"]:
            house = open_house()
            share_out(house, word)
            self.assertEqual(values(house), values(open_house()))

    def test_no_two_lists_are_one(self):
        for kind in [Worst, Even]:
            for house, way in [(open_house(), [0, 1, 1]), (three_people(), [1, 0, 0])]:
                aim = kind(house, way)
                told = (divide(aim), divide(aim), share_out(house, "worst"), share_out(house, "even"))
                self.assertTrue(all_unlike(told))
                aside = [way, aim.way, house.beds, house.worths] + house.worths
                for one in lists_in(told):
                    self.assertFalse(any(one is other for other in aside))

    def test_told_lists_that_are_changed(self):
        house = three_people()
        for word in ["worst", "even"]:
            aim = KINDS[word](house, [1, 0, 0])
            first = divide(aim)
            kept = first[0][0], list(first[0][1])
            for one in lists_in((first, share_out(house, word))):
                one.append(10 ** 50)
                one[0] = 77
            self.assertEqual(divide(aim)[0], kept)
            self.assertEqual(share_out(house, word)[:2], ([1, 0, 0], kept))
            self.assertEqual(aim.way, [1, 0, 0])
            self.assertEqual(values(house), values(three_people()))

    def test_what_is_done_later_changes_nothing_told(self):
        house = three_people()
        told = share_out(house, "worst")
        kept = (list(told[0]), (told[1][0], list(told[1][1])), [list(chain) for chain in told[2]])
        share_out(house, "even")
        divide(Worst(house, told[0]))
        divide(Even(open_house(), [0, 1, 1]))
        self.assertEqual(told, kept)


if __name__ == "__main__":
    unittest.main()
