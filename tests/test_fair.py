"""Points 10 and 11: what is paid, shares, and where prices aren't fair; points 1 and 3 for them."""

import itertools
import unittest
from fractions import Fraction

from houses import GREAT, Numbers, best_ways, every_way, made_beds, made_house, values
from rentshare.fair import breach, paid, shares
from rentshare.house import House


def three_people():
    # By WAY the first two lie in room 0, the third one in room 1; room 2 is empty. Prices of 350 and 300 are fair where
    # room 2 costs 100 to 300.
    return House([2, 1, 1], [[500, 400, 100], [450, 300, 200], [300, 450, 250]], 1000)


WAY = [0, 0, 1]


def due(house, way, prices):
    """All that isn't fair, each kind with its least numbers, reckoned by fractions."""
    parts, rows = prices
    costs = [Fraction(row, parts) for row in rows]
    rooms = range(len(rows))
    found = []
    if sum(costs[room] for room in way) != house.rent:
        found.append(("sum",))
    envies = []
    for person, own in enumerate(way):
        row = house.worths[person]
        envies += [("envy", person, room) for room in rooms if row[room] - costs[room] > row[own] - costs[own]]
    opens = []
    for room in rooms:
        if way.count(room) < house.beds[room]:
            opens += [("open", room, other) for other in rooms if other in way and costs[room] > costs[other]]
    return found + envies[:1] + opens[:1]


class PaidAndShares(unittest.TestCase):
    def test_one_part(self):
        prices = (1, [350, 300, 200])
        self.assertEqual(paid(three_people(), WAY, prices), [350, 350, 300])
        self.assertEqual(shares(three_people(), WAY, prices), [150, 100, 150])

    def test_several_parts(self):
        prices = (3, [1001, 998, 7])
        self.assertEqual(paid(three_people(), WAY, prices), [1001, 1001, 998])
        self.assertEqual(shares(three_people(), WAY, prices), [499, 349, 352])

    def test_not_in_lowest_terms(self):
        prices = (4, [1400, 1200, 800])
        self.assertEqual(paid(three_people(), WAY, prices), [1400, 1400, 1200])
        self.assertEqual(shares(three_people(), WAY, prices), [600, 400, 600])

    def test_below_nought(self):
        house = House([1, 2], [[-5, 20], [3, -40]], -9)
        self.assertEqual(paid(house, [0, 1], (2, [-7, -11])), [-7, -11])
        self.assertEqual(shares(house, [0, 1], (2, [-7, -11])), [-3, -69])
        self.assertEqual(paid(house, [1, 0], (2, [-7, -11])), [-11, -7])
        self.assertEqual(shares(house, [1, 0], (2, [-7, -11])), [51, 13])

    def test_one_room_and_one_person(self):
        self.assertEqual(paid(House([1], [[5]], 9), [0], (7, [63])), [63])
        self.assertEqual(shares(House([1], [[5]], 9), [0], (7, [63])), [-28])

    def test_unfair_prices_and_any_way(self):
        self.assertEqual(paid(three_people(), [2, 1, 0], (1, [9, 8, 7])), [7, 8, 9])
        self.assertEqual(shares(three_people(), [2, 1, 0], (1, [9, 8, 7])), [93, 292, 291])

    def test_great_numbers(self):
        house = House([4, 1], [[GREAT, 0], [-GREAT, 0], [1, GREAT]], GREAT)
        prices = (10000, [10 ** 44, -(10 ** 44) + 1])
        self.assertEqual(paid(house, [0, 0, 1], prices), [10 ** 44, 10 ** 44, -(10 ** 44) + 1])
        self.assertEqual(shares(house, [0, 0, 1], prices), [-10000, 10000 - 2 * 10 ** 44, 2 * 10 ** 44 - 10001])

    def test_made_up_houses(self):
        numbers = Numbers(20)
        for turn in range(60):
            people = numbers.between(1, 4)
            house = made_house(numbers, made_beds(numbers, 3, people), people, 50)
            parts = numbers.between(1, 9)
            rows = [numbers.between(-99, 99) for room in range(3)]
            for way in every_way(house):
                costs = paid(house, way, (parts, rows))
                self.assertEqual(costs, [rows[room] for room in way])
                had = [parts * house.worths[person][room] - rows[room] for person, room in enumerate(way)]
                self.assertEqual(shares(house, way, (parts, rows)), had)


class Breach(unittest.TestCase):
    def check(self, rows, answer, parts=1, house=None, way=None):
        house = three_people() if house is None else house
        way = WAY if way is None else way
        told = breach(house, way, (parts, rows))
        self.assertEqual(told, answer)
        if told is not None:
            self.assertIs(type(told), tuple)

    def test_fair(self):
        for last in [100, 101, 200, 299, 300]:
            self.check([350, 300, last], None)

    def test_fair_in_several_parts(self):
        self.check([1000, 1000, 1000], None, parts=3)
        self.check([1001, 998, 998], None, parts=3)
        self.check([701, 598, 201], None, parts=2)

    def test_fair_and_not_in_lowest_terms(self):
        self.check([700, 600, 200], None, parts=2)
        self.check([2450, 2100, 2100], None, parts=7)
        self.check([0, 0], None, parts=12, house=House([1, 1], [[4, 3], [3, 4]], 0), way=[0, 1])

    def test_unfair_and_not_in_lowest_terms(self):
        self.check([700, 602, 200], ("sum",), parts=2)
        self.check([700, 600, 198], ("envy", 1, 2), parts=2)
        self.check([700, 600, 602], ("open", 2, 1), parts=2)

    def test_fair_below_nought(self):
        house = House([1, 1], [[-5, -9], [-8, -4]], -30)
        self.check([-15, -15], None, house=house, way=[0, 1])
        self.check([-13, -17], None, house=house, way=[0, 1])
        self.check([-17, -13], None, house=house, way=[0, 1])
        self.check([-12, -18], ("envy", 0, 1), house=house, way=[0, 1])
        self.check([-18, -12], ("envy", 1, 0), house=house, way=[0, 1])
        self.check([15, 15], ("sum",), house=house, way=[0, 1])

    def test_one_room_and_one_person(self):
        for rent in [0, 7, -7, GREAT, -GREAT]:
            for worth in [0, 9, -9]:
                house = House([1], [[worth]], rent)
                self.check([rent], None, house=house, way=[0])
                self.check([rent * 6], None, parts=6, house=house, way=[0])
                self.check([rent + 1], ("sum",), house=house, way=[0])
                self.check([rent * 6 - 1], ("sum",), parts=6, house=house, way=[0])

    def test_sum(self):
        self.check([350, 301, 200], ("sum",))
        self.check([350, 299, 200], ("sum",))
        self.check([351, 300, 200], ("sum",))
        # Each person counts once: rooms' prices that sum to the rent are not enough, nor are the taken rooms' prices.
        self.check([400, 350, 250], ("sum",))
        self.check([550, 450, 300], ("sum",))

    def test_sum_by_a_part_of_a_hundredth(self):
        self.check([1001, 999, 998], ("sum",), parts=3)
        self.check([1001, 997, 998], ("sum",), parts=3)

    def test_sum_ahead_of_envy_and_open(self):
        self.check([350, 299, 99], ("sum",))
        self.check([350, 299, 400], ("sum",))
        self.check([900, 0, 100], ("sum",))
        self.assertEqual(due(three_people(), WAY, (1, [900, 0, 100])), [("sum",), ("envy", 0, 1), ("open", 2, 1)])

    def test_envy_of_an_empty_room(self):
        # At 99 the second and the third person would rather have room 2.
        self.check([350, 300, 99], ("envy", 1, 2))
        self.check([350, 300, -50], ("envy", 1, 2))
        self.check([350, 300, -51], ("envy", 0, 2))
        self.check([340, 320, 99], ("envy", 2, 2))

    def test_envy_of_a_full_room(self):
        self.check([366, 268, 268], None)
        self.check([367, 266, 266], ("envy", 0, 1))
        self.check([284, 432, 284], None)
        self.check([283, 434, 283], ("envy", 2, 0))

    def test_envy_of_an_open_room_that_is_taken(self):
        house = House([2, 1], [[10, 10], [10, 15]], 20)
        self.check([9, 11], None, house=house, way=[0, 1])
        self.check([7, 13], ("envy", 1, 0), house=house, way=[0, 1])
        house = House([1, 2], [[15, 10], [10, 10]], 20)
        self.check([13, 7], ("envy", 0, 1), house=house, way=[0, 1])

    def test_envy_between_two_in_one_room(self):
        # The second one alone would rather go.
        house = House([2, 1, 1], [[10, 0, 0], [10, 8, 0], [0, 20, 0]], 22)
        self.check([8, 6, 6], None, house=house, way=[0, 0, 1])
        self.check([9, 4, 4], ("envy", 1, 1), house=house, way=[0, 0, 1])

    def test_envy_by_a_part_of_a_hundredth(self):
        house = House([1, 1], [[10, 6], [0, 0]], 10)
        self.check([21, 9], None, parts=3, house=house, way=[0, 1])
        self.check([22, 8], ("envy", 0, 1), parts=3, house=house, way=[0, 1])

    def test_envy_least_person_then_least_room(self):
        house = House([1, 1, 1, 1], [[10, 0, 0, 0], [0, 10, 30, 30], [40, 0, 10, 40], [0, 0, 0, 0]], 40)
        self.check([10, 10, 10, 10], ("envy", 1, 2), house=house, way=[0, 1, 2, 3])
        house = House([1, 1, 1], [[0, 0, 0], [0, 0, 0], [5, 5, 0]], 0)
        self.check([0, 0, 0], ("envy", 2, 0), house=house, way=[0, 1, 2])
        # The envy that is told is the least room's, not the greatest one.
        house = House([1, 1, 1], [[0, 1, 9], [0, 0, 0], [0, 0, 0]], 0)
        self.check([0, 0, 0], ("envy", 0, 1), house=house, way=[0, 1, 2])

    def test_nobody_envies_for_an_equal_share(self):
        house = House([1, 1, 2], [[7, 7, 7], [7, 7, 7]], 8)
        self.check([4, 4, 4], None, house=house, way=[0, 1])
        self.check([4, 4, 4], None, house=house, way=[2, 1])
        self.check([4, 4, 4], None, house=house, way=[2, 2])

    def test_envy_ahead_of_open(self):
        house = House([1, 1, 1, 1], [[10, 9, 0, 0], [0, 10, 0, 0]], 20)
        self.check([11, 9, 10, 10], ("envy", 0, 1), house=house, way=[0, 1])
        self.assertEqual(due(house, [0, 1], (1, [11, 9, 10, 10])), [("envy", 0, 1), ("open", 2, 1)])
        # An envy of the last person is ahead of it too.
        house = House([1, 1, 1, 1], [[10, 0, 0, 0], [9, 10, 0, 0]], 20)
        self.check([9, 11, 10, 10], ("envy", 1, 0), house=house, way=[0, 1])

    def test_open_room_that_is_empty(self):
        self.check([350, 300, 301], ("open", 2, 1))
        self.check([350, 300, 350], ("open", 2, 1))
        self.check([350, 300, 351], ("open", 2, 0))
        self.check([350, 300, 10 ** 42], ("open", 2, 0))

    def test_open_room_that_is_taken(self):
        house = House([2, 1], [[20, 0], [0, 20]], 20)
        self.check([10, 10], None, house=house, way=[0, 1])
        self.check([9, 11], None, house=house, way=[0, 1])
        self.check([11, 9], ("open", 0, 1), house=house, way=[0, 1])
        house = House([1, 2], [[20, 0], [0, 20]], 20)
        self.check([9, 11], ("open", 1, 0), house=house, way=[0, 1])
        self.check([11, 9], None, house=house, way=[0, 1])

    def test_open_rooms_that_are_all_taken(self):
        house = House([2, 2], [[20, 0], [0, 20]], 20)
        self.check([10, 10], None, house=house, way=[0, 1])
        self.check([11, 9], ("open", 0, 1), house=house, way=[0, 1])
        self.check([9, 11], ("open", 1, 0), house=house, way=[0, 1])

    def test_open_least_room_then_least_taken_one(self):
        house = House([1, 2, 1, 1], [[0, 90, 0, 0], [0, 0, 90, 0]], 20)
        self.check([5, 10, 10, 5], None, house=house, way=[1, 2])
        self.check([11, 10, 10, 5], ("open", 0, 1), house=house, way=[1, 2])
        self.check([5, 10, 10, 11], ("open", 3, 1), house=house, way=[1, 2])
        self.check([11, 10, 10, 12], ("open", 0, 1), house=house, way=[1, 2])
        self.check([10, 9, 11, 11], ("open", 0, 1), house=house, way=[1, 2])
        self.check([10, 11, 9, 5], ("open", 0, 2), house=house, way=[1, 2])
        self.check([9, 11, 9, 10], ("open", 1, 2), house=house, way=[1, 2])
        self.check([20, 11, 9, 5], ("open", 0, 1), house=house, way=[1, 2])

    def test_an_empty_room_may_be_dearer_than_an_empty_one(self):
        house = House([1, 1, 1], [[90, 0, 0]], 20)
        self.check([20, 20, 3], None, house=house, way=[0])
        self.check([20, 3, 20], None, house=house, way=[0])

    def test_open_by_a_part_of_a_hundredth(self):
        self.check([1000, 1000, 1001], ("open", 2, 0), parts=3)
        self.check([1001, 998, 999], ("open", 2, 1), parts=3)

    def test_a_full_room_may_be_dearer(self):
        house = House([1, 2], [[20, 0], [0, 20]], 20)
        self.check([19, 1], None, house=house, way=[0, 1])

    def test_great_numbers(self):
        house = House([1, 1, 1], [[GREAT, -GREAT, -GREAT], [-GREAT, GREAT, -GREAT]], GREAT)
        half = GREAT // 2
        self.check([half + 1, half, half], None, house=house, way=[0, 1])
        self.check([half, half, half], ("sum",), house=house, way=[0, 1])
        self.check([half + 1, half, half + 1], ("open", 2, 1), house=house, way=[0, 1])
        house = House([1, 1], [[GREAT, 0], [0, 0]], GREAT)
        self.check([GREAT, 0], None, house=house, way=[0, 1])
        self.check([GREAT + 1, -1], ("envy", 0, 1), house=house, way=[0, 1])

    def test_ten_rooms_and_ten_people(self):
        worths = [[10 if room == person else 0 for room in range(10)] for person in range(10)]
        way = list(range(10))
        house = House([1] * 10, worths, 50)
        self.check([5] * 10, None, house=house, way=way)
        self.check([0] * 5 + [10] * 5, None, house=house, way=way)
        self.check([0] * 4 + [-1] + [10] * 4 + [11], ("envy", 5, 4), house=house, way=way)
        house = House([2] * 10, worths, 50)
        self.check([5] * 10, None, house=house, way=way)
        self.check([5] * 8 + [4, 6], ("open", 0, 8), house=house, way=way)


class AllPrices(unittest.TestCase):
    def test_against_fractions(self):
        numbers = Numbers(21)
        seen = {}
        for turn in range(40):
            people = numbers.between(1, 3)
            house = made_house(numbers, made_beds(numbers, 3, people), people, 3)
            ways = every_way(house)
            for rows in itertools.product(range(-1, 3), repeat=3):
                way = ways[numbers.below(len(ways))] if numbers.below(2) else best_ways(house)[0]
                parts = numbers.between(1, 3)
                # Mostly the rent that the prices make, so that the sum isn't all that is due.
                total = sum(rows[room] for room in way)
                asked = House(house.beds, house.worths, total // parts)
                found = due(asked, way, (parts, list(rows)))
                told = breach(asked, way, (parts, list(rows)))
                self.assertEqual(told, found[0] if found else None, (values(asked), way, parts, rows))
                kinds = tuple(thing[0] for thing in found)
                seen[kinds] = seen.get(kinds, 0) + 1
        for kinds in [(), ("sum",), ("envy",), ("open",), ("sum", "envy"), ("sum", "open"), ("envy", "open"),
                      ("sum", "envy", "open")]:
            self.assertGreater(seen.get(kinds, 0), 9, (kinds, seen))

    def test_only_ways_of_greatest_worth_have_fair_prices(self):
        numbers = Numbers(22)
        found = 0
        for turn in range(25):
            people = numbers.between(2, 3)
            house = made_house(numbers, made_beds(numbers, 2, people), people, 2, rent=numbers.between(-2, 2))
            best = best_ways(house)
            for parts in [1, 2, 3]:
                for rows in itertools.product(range(-5 * parts, 5 * parts + 1), repeat=2):
                    fair = [way for way in every_way(house) if breach(house, way, (parts, list(rows))) is None]
                    self.assertIn(fair, [[], best])
                    found += len(fair) > 0
        self.assertGreater(found, 25)


class Own(unittest.TestCase):
    def test_what_is_handed_in_stays_as_it_was(self):
        for asked in [paid, shares, breach]:
            for prices in [(1, [350, 300, 200]), (4, [1400, 1200, 800]), (2, [1, 2, 3]), (2, [700, 600, 0]),
                           (2, [700, 600, 900])]:
                with self.subTest(asked=asked.__name__, prices=prices):
                    house = three_people()
                    way = list(WAY)
                    rows = list(prices[1])
                    handed = (prices[0], rows)
                    asked(house, way, handed)
                    self.assertEqual(values(house), values(three_people()))
                    self.assertEqual(way, WAY)
                    self.assertEqual(handed, prices)
                    self.assertIs(handed[1], rows)

    def test_what_is_told_is_the_askers_own(self):
        for asked in [paid, shares]:
            with self.subTest(asked=asked.__name__):
                # Everybody has the room of their own number, so what is paid looks like the rows themselves.
                house = House([1, 1], [[0, 0], [0, 0]], 0)
                way = [0, 1]
                prices = (1, [0, 1])
                first = asked(house, way, prices)
                kept = list(first)
                second = asked(house, way, prices)
                self.assertIs(type(first), list)
                self.assertIsNot(first, second)
                second[0] = 99
                second.append(98)
                self.assertEqual(first, kept)
                self.assertEqual(asked(house, way, prices), kept)
                self.assertEqual((way, prices), ([0, 1], (1, [0, 1])))
                self.assertEqual(values(house), ([1, 1], [[0, 0], [0, 0]], 0))

    def test_rows_that_are_changed_later(self):
        rows = [350, 300, 200]
        costs = paid(three_people(), WAY, (1, rows))
        had = shares(three_people(), WAY, (1, rows))
        rows[0] = 0
        self.assertEqual((costs, had), ([350, 350, 300], [150, 100, 150]))


if __name__ == "__main__":
    unittest.main()
