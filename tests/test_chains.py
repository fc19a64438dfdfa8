"""Points 13 to 15: chains, their greatest gains, and the bound; points 1 and 3 for them, and the close of point 12."""

import itertools
import unittest
from fractions import Fraction

from houses import (GREAT, Numbers, all_unlike, best_ways, gain_of, hops, lists_in, made_beds, made_house, planted,
                    values)
from rentshare.aims import Aim, Even, Worst
from rentshare.chains import bound, chain_gain, greatest
from rentshare.fair import breach
from rentshare.house import House


def four_people():
    # By WAY rooms 0 and 1 are full, room 2 is open and taken, room 3 is empty. No way has a greater worth.
    return House([1, 1, 3, 1], [[90, 40, 30, 20], [70, 80, 10, 50], [60, 35, 75, 5], [15, 25, 65, 45]], 120)


WAY = [0, 1, 2, 2]


def row_house(kind, people, order):
    """Each hop from one to the next in order gains 1, each other one loses much; so the chains are long."""
    worths = [[-1000] * people for person in range(people)]
    for person in range(people):
        worths[person][person] = 0
    for one, following in zip(order, order[1:]):
        if kind is Worst:
            worths[following][one] = 1
        else:
            worths[one][following] = 1
    return House([1] * people, worths, 55)


class ChainGain(unittest.TestCase):
    def check(self, aim, chain, person, answer):
        told = chain_gain(aim, chain, person)
        self.assertEqual(told, answer, (chain, person))
        self.assertEqual(told is None, answer is None)

    def test_the_empty_list(self):
        for kind in [Aim, Worst, Even]:
            for person in range(4):
                self.check(kind(four_people(), WAY), [], person, 0)
        self.check(Worst(House([1], [[5]], 2), [0]), [], 0, 0)

    def test_one_hop(self):
        worst = Worst(four_people(), WAY)
        self.check(worst, [(0, 0, 1)], 1, 70 - 90)
        self.check(worst, [(0, 2, 1)], 1, 10 - 90)
        self.check(worst, [(0, 3, 1)], 1, 50 - 90)
        self.check(worst, [(3, 2, 2)], 2, 75 - 65)
        even = Even(four_people(), WAY)
        self.check(even, [(0, 1, 1)], 1, 40 - 90)
        self.check(even, [(0, 2, 1)], 1, 30 - 90)
        self.check(even, [(0, 3, 1)], 1, 20 - 90)
        self.check(even, [(3, 0, 0)], 0, 15 - 65)

    def test_a_chain_of_several_hops(self):
        worst = Worst(four_people(), WAY)
        self.check(worst, [(3, 2, 2), (2, 3, 0), (0, 0, 1)], 1, 75 - 65 + 20 - 75 + 70 - 90)
        even = Even(four_people(), WAY)
        self.check(even, [(3, 2, 2), (2, 3, 0), (0, 1, 1)], 1, 65 - 65 + 5 - 75 + 40 - 90)

    def test_a_gain_of_nought_is_no_none(self):
        house = House([1, 1], [[5, 5], [5, 5]], 0)
        self.check(Worst(house, [0, 1]), [(0, 0, 1)], 1, 0)
        self.check(Even(house, [0, 1]), [(0, 1, 1)], 1, 0)
        self.check(Even(house, [0, 1]), [(0, 1, 1), (1, 0, 0)], 0, 0)

    def test_a_chain_may_come_to_a_person_again(self):
        worst = Worst(four_people(), WAY)
        self.check(worst, [(0, 0, 1), (1, 1, 0)], 0, 70 - 90 + 40 - 80)
        self.check(worst, [(0, 0, 1), (1, 1, 0), (0, 0, 1)], 1, 70 - 90 + 40 - 80 + 70 - 90)
        even = Even(four_people(), WAY)
        self.check(even, [(0, 1, 1), (1, 0, 0), (0, 1, 1)], 1, 40 - 90 + 70 - 80 + 40 - 90)

    def test_ends_with_another_person(self):
        for aim, chain in [(Worst(four_people(), WAY), [(3, 2, 2), (2, 3, 0), (0, 0, 1)]),
                           (Even(four_people(), WAY), [(3, 2, 2), (2, 3, 0), (0, 1, 1)])]:
            self.check(aim, chain, 0, None)
            self.check(aim, chain, 2, None)
            # Not with the person with whom it begins either.
            self.check(aim, chain, 3, None)

    def test_breaks_in_the_middle(self):
        for aim, last in [(Worst(four_people(), WAY), (0, 0, 1)), (Even(four_people(), WAY), (0, 1, 1))]:
            self.check(aim, [(3, 2, 2), last], 1, None)
            self.check(aim, [(3, 2, 2), (2, 3, 3), last], 1, None)
            self.check(aim, [last, last], 1, None)
            # Turned round, the hops don't hang together.
            self.check(aim, [last, (2, 3, 0)], 0, None)
            self.check(aim, [last, (2, 3, 0), (3, 2, 2)], 2, None)

    def test_from_a_person_to_the_same_one(self):
        for kind in [Worst, Even]:
            aim = kind(four_people(), WAY)
            for person in range(4):
                for room in range(4):
                    self.check(aim, [(person, room, person)], person, None)
            self.check(aim, [(0, 3, 1), (1, 3, 1)], 1, None)
            self.check(aim, [(0, 3, 0), (0, 3, 1)], 1, None)
            self.check(aim, [(0, 3, 1), (1, 3, 1), (1, 3, 2)], 2, None)

    def test_a_room_that_the_hop_doesnt_go_through(self):
        worst = Worst(four_people(), WAY)
        self.check(worst, [(0, 1, 1)], 1, None)
        self.check(worst, [(2, 0, 3)], 3, None)
        self.check(worst, [(2, 1, 0), (0, 0, 1)], 1, None)
        self.check(worst, [(0, 0, 1), (1, 0, 2)], 2, None)
        even = Even(four_people(), WAY)
        self.check(even, [(0, 0, 1)], 1, None)
        self.check(even, [(2, 0, 3)], 3, None)
        self.check(even, [(2, 1, 0), (0, 1, 1)], 1, None)
        self.check(even, [(0, 1, 1), (1, 1, 2)], 2, None)

    def test_numbers_that_are_not_there(self):
        for aim, own in [(Worst(four_people(), WAY), 0), (Even(four_people(), WAY), 1)]:
            self.check(aim, [(2, 3, 0), (0, own, 1)], 1, gain_of(aim, [(2, 3, 0), (0, own, 1)], 1))
            for number in [-1, -2, -3, -4, -5, 4, 5, 10 ** 59, -(10 ** 59)]:
                # Below nought they would be places from the end, if they were taken as they are.
                self.check(aim, [(number, 3, 1)], 1, None)
                self.check(aim, [(number, own, 1)], 1, None)
                self.check(aim, [(0, number, 1)], 1, None)
                self.check(aim, [(0, own, number)], 1, None)
                self.check(aim, [(2, 3, number), (number, own, 1)], 1, None)
                self.check(aim, [(2, 3, 0), (0, number, 1)], 1, None)
                self.check(aim, [(number, 3, 0), (0, own, 1)], 1, None)
                self.check(aim, [(2, number, 0), (0, own, 1)], 1, None)
                self.check(aim, [(number, number, number)], 1, None)

    def test_people_and_rooms_are_not_mixed_up(self):
        # Three people and two rooms, then two people and three rooms.
        house = House([2, 2], [[9, 1], [8, 2], [3, 7]], 0)
        self.check(Worst(house, [0, 0, 1]), [(2, 1, 0)], 0, 1 - 7)
        self.check(Worst(house, [0, 0, 1]), [(0, 2, 1)], 1, None)
        self.check(Even(house, [0, 0, 1]), [(0, 1, 2)], 2, 1 - 9)
        house = House([1, 1, 1], [[9, 1, 4], [2, 8, 5]], 0)
        self.check(Worst(house, [0, 1]), [(0, 2, 1)], 1, 5 - 9)
        self.check(Worst(house, [0, 1]), [(0, 2, 2)], 1, None)
        self.check(Worst(house, [0, 1]), [(2, 2, 1)], 1, None)
        self.check(Even(house, [0, 1]), [(0, 2, 1)], 1, 4 - 9)

    def test_two_hundred_hops(self):
        for aim, there, back in [(Worst(four_people(), WAY), (0, 0, 1), (1, 1, 0)),
                                 (Even(four_people(), WAY), (0, 1, 1), (1, 0, 0))]:
            chain = [there, back] * 100
            known = hops(aim)
            self.check(aim, chain, 0, 100 * (known[there] + known[back]))
            self.check(aim, chain, 1, None)
            for place in [0, 1, 99, 100, 198, 199]:
                broken = list(chain)
                broken[place] = (2, 3, 3)
                self.check(aim, broken, 0, None)
                self.check(aim, chain[:place] + chain[place + 1:] + [there], 1,
                           None if place > 0 else 100 * (known[there] + known[back]))
            self.check(aim, [(10 ** 60, -(10 ** 60), 7)] * 200, 0, None)
            self.check(aim, [(0, 3, 0)] * 200, 0, None)

    def test_a_plain_aim(self):
        aim = Aim(four_people(), WAY)
        for a in range(4):
            for r in range(4):
                for b in range(4):
                    self.check(aim, [(a, r, b)], b, None)
        self.check(aim, [(0, 0, 1), (1, 1, 2)], 2, None)

    def test_all_short_lists(self):
        numbers = Numbers(40)
        seen = {True: 0, False: 0}
        for turn in range(4):
            house = made_house(numbers, made_beds(numbers, 2, 3), 3, 20)
            for kind in [Worst, Even]:
                aim = kind(house, best_ways(house)[0])
                tuples = list(itertools.product(range(3), range(2), range(3)))
                for chain in [[one, other] for one in tuples for other in tuples]:
                    person = numbers.below(3)
                    answer = gain_of(aim, chain, person)
                    self.check(aim, chain, person, answer)
                    seen[answer is None] += 1
        self.assertGreater(min(seen.values()), 50)

    def test_great_numbers(self):
        house = House([1, 1], [[GREAT, -GREAT], [-GREAT, GREAT]], 0)
        self.check(Worst(house, [0, 1]), [(0, 0, 1), (1, 1, 0)], 0, -4 * GREAT)
        self.check(Even(house, [0, 1]), [(0, 1, 1), (1, 0, 0), (0, 1, 1)], 1, -6 * GREAT)

    def test_a_way_that_isnt_of_greatest_worth(self):
        house = House([1, 1], [[0, 9], [7, 0]], 0)
        self.check(Worst(house, [0, 1]), [(0, 0, 1), (1, 1, 0)], 0, 16)
        self.check(Even(house, [0, 1]), [(0, 1, 1), (1, 0, 0)], 0, 16)


class Greatest(unittest.TestCase):
    def check(self, aim):
        told = greatest(aim)
        self.assertIs(type(told), tuple)
        self.assertEqual([type(thing) for thing in told], [list, list])
        gains, chains = told
        people = len(aim.house.worths)
        self.assertEqual((len(gains), len(chains)), (people, people))
        for person in range(people):
            self.assertGreaterEqual(gains[person], 0)
            self.assertIs(type(chains[person]), list)
            self.assertTrue(all(type(hop) is tuple for hop in chains[person]))
            self.assertEqual(gain_of(aim, chains[person], person), gains[person], values(aim.house))
            self.assertEqual(chain_gain(aim, chains[person], person), gains[person])
        for hop, gain in hops(aim).items():
            self.assertGreaterEqual(gains[hop[2]], gains[hop[0]] + gain, (values(aim.house), hop))
        return gains

    def test_one_person(self):
        for kind in [Aim, Worst, Even]:
            self.assertEqual(greatest(kind(House([1], [[5]], 2), [0])), ([0], [[]]))
            self.assertEqual(greatest(kind(House([2, 3], [[-5, -9]], 2), [0])), ([0], [[]]))

    def test_a_plain_aim(self):
        self.assertEqual(greatest(Aim(four_people(), WAY)), ([0, 0, 0, 0], [[], [], [], []]))

    def test_gains_of_nought(self):
        for kind in [Worst, Even]:
            same = House([1, 2, 1], [[7, 7, 7] for person in range(3)], 10)
            for way in best_ways(same):
                self.assertEqual(self.check(kind(same, way)), [0, 0, 0])
            apart = House([1, 1], [[9, 1], [1, 9]], 10)
            self.assertEqual(self.check(kind(apart, [0, 1])), [0, 0])

    def test_one_hop(self):
        house = House([1, 1], [[9, 6], [5, 4]], 10)
        self.assertEqual(self.check(Worst(house, [0, 1])), [2, 0])
        self.assertEqual(self.check(Even(house, [0, 1])), [1, 0])

    def test_an_open_room(self):
        # Through the open room alone there is something to gain.
        house = House([1, 1, 1], [[9, 0, 9], [0, 4, 3]], 10)
        self.assertEqual(self.check(Worst(house, [0, 1])), [5, 0])
        self.assertEqual(self.check(Even(house, [0, 1])), [0, 0])
        # Of several open rooms the best one counts.
        house = House([1, 1, 1, 1, 1], [[9, 0, 6, 8, 7], [0, 4, 3, 3, 3]], 10)
        self.assertEqual(self.check(Worst(house, [0, 1])), [4, 0])
        house = House([1, 1, 1, 1, 1], [[9, 0, 8, 6, 7], [0, 4, 3, 3, 3]], 10)
        self.assertEqual(self.check(Worst(house, [0, 1])), [4, 0])

    def test_chains_of_several_hops(self):
        for kind in [Worst, Even]:
            for people in [2, 3, 5, 10]:
                for order in [list(range(people)), list(range(people))[::-1]]:
                    gains = self.check(kind(row_house(kind, people, order), list(range(people))))
                    self.assertEqual([gains[person] for person in order], list(range(people)))

    def test_chains_in_mixed_orders(self):
        numbers = Numbers(41)
        for kind in [Worst, Even]:
            for turn in range(6):
                order = numbers.mixed(range(10))
                gains = self.check(kind(row_house(kind, 10, order), list(range(10))))
                self.assertEqual([gains[person] for person in order], list(range(10)))

    def test_a_long_chain_beats_a_short_one(self):
        for kind in [Worst, Even]:
            for people in [3, 6, 10]:
                for order in [list(range(people)), list(range(people))[::-1]]:
                    house = row_house(kind, people, order)
                    first, last = order[0], order[-1]
                    # A single hop to the last one gains, too, but one less than all together.
                    if kind is Worst:
                        house.worths[last][first] = people - 2
                    else:
                        house.worths[first][last] = people - 2
                    house = House(house.beds, house.worths, 0)
                    self.assertEqual(self.check(kind(house, list(range(people))))[last], people - 1)

    def test_small_houses(self):
        numbers = Numbers(42)
        found = {}
        for turn in range(80):
            people = numbers.between(1, 4)
            house = made_house(numbers, made_beds(numbers, 3, people), people, numbers.between(1, 30), rent=10)
            for way in best_ways(house):
                for kind in [Worst, Even]:
                    aim = kind(house, way)
                    gains = self.check(aim)
                    self.assertEqual(gains, self.by_all_chains(aim), values(house))
                    for gain in gains:
                        found[gain > 0] = found.get(gain > 0, 0) + 1
        self.assertGreater(min(found[True], found[False]), 50)

    def by_all_chains(self, aim):
        known = hops(aim)
        people = range(len(aim.way))
        gains = [0 for person in people]
        for count in range(2, len(people) + 1):
            for row in itertools.permutations(people, count):
                total = 0
                for a, b in zip(row, row[1:]):
                    total += max(gain for hop, gain in known.items() if hop[0] == a and hop[2] == b)
                gains[row[-1]] = max(gains[row[-1]], total)
        return gains

    def test_ten_rooms_and_ten_people(self):
        numbers = Numbers(43)
        for size in [5, 1000, 10 ** 39 * 4]:
            for beds in [[1] * 10, [1, 2] * 5, [1, 1, 4, 1, 1, 1, 2, 1, 1, 1]]:
                house, way = planted(numbers, beds, 10, size)
                for kind in [Worst, Even]:
                    self.check(kind(house, way))

    def test_the_greatest_amounts(self):
        worths = [[GREAT if room <= person else -GREAT for room in range(10)] for person in range(10)]
        house = House([1] * 10, worths, GREAT)
        self.check(Worst(house, list(range(10))))
        self.check(Even(house, list(range(10))))
        worths = [[-GREAT] * 10 for person in range(10)]
        house = House([1] * 10, worths, -GREAT)
        self.assertEqual(self.check(Worst(house, list(range(10)))), [0] * 10)
        self.assertEqual(self.check(Even(house, list(range(10)))), [0] * 10)

    def test_gains_beyond_one_amount(self):
        # The gains rise evenly to twice the greatest amount.
        order = [4, 7, 0, 9, 2, 5, 1, 8, 3, 6]
        rising = [2 * GREAT // 9 * place for place in range(10)]
        for kind in [Worst, Even]:
            worths = [[-GREAT] * 10 for person in range(10)]
            for place, person in enumerate(order):
                worths[person][person] = rising[place] - GREAT
                if place > 0:
                    ahead = order[place - 1]
                    one, room = (person, ahead) if kind is Worst else (ahead, person)
                    worths[one][room] = rising[place] - GREAT
            gains = self.check(kind(House([1] * 10, worths, 0), list(range(10))))
            self.assertEqual([gains[person] for person in order], rising)


class Bound(unittest.TestCase):
    def test_empty_chains(self):
        self.assertEqual(bound(Worst(four_people(), WAY), [[], [], [], []]), (90 + 80 + 75 + 65 - 120, 4))
        self.assertEqual(bound(Even(four_people(), WAY), [[], [], [], []]), (120, 4))
        self.assertEqual(bound(Aim(four_people(), WAY), [[], [], [], []]), (0, 4))
        self.assertEqual(bound(Worst(House([1], [[5]], 2), [0]), [[]]), (3, 1))
        self.assertEqual(bound(Even(House([1], [[5]], -2), [0]), [[]]), (-2, 1))

    def test_it_is_a_tuple_of_two_whole_numbers(self):
        told = bound(Worst(four_people(), WAY), [[], [], [], []])
        self.assertIs(type(told), tuple)
        self.assertEqual([type(number) for number in told], [int, int])

    def test_it_is_not_made_lower(self):
        self.assertEqual(bound(Even(House([1, 1], [[4, 0], [0, 4]], 4), [0, 1]), [[], []]), (4, 2))
        self.assertEqual(bound(Even(House([1, 1], [[4, 0], [0, 4]], 0), [0, 1]), [[], []]), (0, 2))

    def test_some_chains(self):
        worst = Worst(four_people(), WAY)
        self.assertEqual(bound(worst, [[], [(0, 0, 1)], [], []]), (190 + 20, 4))
        self.assertEqual(bound(worst, [[], [(0, 0, 1)], [(3, 2, 2)], []]), (190 + 20 - 10, 4))
        even = Even(four_people(), WAY)
        self.assertEqual(bound(even, [[(3, 0, 0)], [], [], [(0, 2, 2), (2, 3, 3)]]), (120 + 50 + 60 + 70, 4))

    def test_gains_of_nought(self):
        house = House([1, 1], [[5, 5], [5, 5]], 8)
        self.assertEqual(bound(Worst(house, [0, 1]), [[(1, 1, 0)], [(0, 0, 1)]]), (2, 2))
        self.assertEqual(bound(Even(house, [0, 1]), [[(1, 0, 0)], [(0, 1, 1)]]), (8, 2))

    def test_of_the_greatest_gains(self):
        house = House([1, 1], [[9, 6], [5, 4]], 10)
        worst = Worst(house, [0, 1])
        self.assertEqual(bound(worst, greatest(worst)[1]), (13 - 10 - 2, 2))
        even = Even(house, [0, 1])
        self.assertEqual(bound(even, greatest(even)[1]), (10 - 1, 2))

    def test_of_the_greatest_gains_in_made_up_houses(self):
        numbers = Numbers(44)
        for turn in range(30):
            people = numbers.between(1, 6)
            size = [20, 10 ** 39 * 4][turn % 2]
            house, way = planted(numbers, made_beds(numbers, 5, people), people, size)
            worst = Worst(house, way)
            gains, chains = greatest(worst)
            own = sum(house.worths[person][room] for person, room in enumerate(way))
            self.assertEqual(bound(worst, chains), (own - house.rent - sum(gains), people))
            even = Even(house, way)
            gains, chains = greatest(even)
            self.assertEqual(bound(even, chains), (house.rent - sum(gains), people))

    def test_none_where_one_is_no_chain_to_its_person(self):
        for aim, good in [(Worst(four_people(), WAY), (0, 0, 1)), (Even(four_people(), WAY), (0, 1, 1))]:
            self.assertIsNotNone(bound(aim, [[], [good], [], []]))
            for person in range(4):
                for bad in [(person, 3, person), ((person + 1) % 4, 3, (person + 2) % 4), (person - 4, 3, person),
                            ((person + 1) % 4, 4, person), (4, 3, person), (10 ** 59, -(10 ** 59), 10 ** 59)]:
                    chains = [[], [good], [], []]
                    chains[person] = [bad]
                    self.assertIsNone(bound(aim, chains), chains)
            # Each list is held against its own person.
            self.assertIsNone(bound(aim, [[good], [], [], []]))
            self.assertIsNone(bound(aim, [[good], [good], [], []]))
            self.assertIsNone(bound(aim, [[], [], [], [good]]))
        plain = Aim(four_people(), WAY)
        self.assertIsNone(bound(plain, [[], [], [], [(0, 3, 3)]]))

    def test_a_long_chain(self):
        worst = Worst(four_people(), WAY)
        chain = [(0, 0, 1), (1, 1, 0)] * 100
        self.assertEqual(bound(worst, [chain, [], [], []]), (190 + 6000, 4))
        self.assertIsNone(bound(worst, [[], chain, [], []]))

    def test_ten_people_and_great_amounts(self):
        house = House([1] * 10, [[GREAT if room == person else -GREAT for room in range(10)] for person in range(10)],
                      -GREAT)
        way = list(range(10))
        self.assertEqual(bound(Worst(house, way), [[] for person in way]), (11 * GREAT, 10))
        chains = [[(person - 1, person - 1, person)] if person else [] for person in way]
        self.assertEqual(bound(Worst(house, way), chains), (29 * GREAT, 10))


class ByFairPrices(unittest.TestCase):
    """What points 12 and 15 say of fair prices, and that those at the bound itself are fair."""

    def levels(self, kind, house, way, prices):
        parts, rows = prices
        if kind is Even:
            return [Fraction(rows[room], parts) for room in way]
        return [house.worths[person][room] - Fraction(rows[room], parts) for person, room in enumerate(way)]

    def test_no_fair_prices_are_beyond_it(self):
        numbers = Numbers(45)
        found = 0
        for turn in range(12):
            people = numbers.between(2, 3)
            house = made_house(numbers, made_beds(numbers, 3, people), people, 3, rent=numbers.between(-3, 3))
            way = best_ways(house)[0]
            for rows in itertools.product(range(-8, 9), repeat=3):
                prices = (2, list(rows))
                if sum(rows[room] for room in way) != 2 * house.rent or breach(house, way, prices) is not None:
                    continue
                found += 1
                for kind in [Worst, Even]:
                    self.check(kind(house, way), self.levels(kind, house, way, prices))
        self.assertGreater(found, 50)

    def check(self, aim, levels):
        for a, b in itertools.permutations(range(len(levels)), 2):
            for r in aim.through(a, b):
                self.assertGreaterEqual(levels[b], levels[a] + aim.gain(a, r, b))
        number, parts = bound(aim, greatest(aim)[1])
        self.assertLessEqual(min(levels), Fraction(number, parts))
        number, parts = bound(aim, [[] for person in levels])
        self.assertLessEqual(min(levels), Fraction(number, parts))

    def test_prices_at_the_bound_are_fair(self):
        numbers = Numbers(46)
        for turn in range(40):
            people = numbers.between(1, 8)
            house, way = planted(numbers, made_beds(numbers, 5, people), people, [6, 1000, 10 ** 39 * 4][turn % 3])
            for kind in [Worst, Even]:
                aim = kind(house, way)
                gains, chains = greatest(aim)
                number, parts = bound(aim, chains)
                rows = [None] * 5
                for person, room in enumerate(way):
                    price = aim.price(person, number + parts * gains[person], parts)
                    self.assertIn(rows[room], [None, price])
                    rows[room] = price
                least = min(row for row in rows if row is not None)
                prices = (parts, [least if row is None else row for row in rows])
                self.assertIsNone(breach(house, way, prices), values(house))
                self.assertEqual(min(self.levels(kind, house, way, prices)), Fraction(number, parts))


class Own(unittest.TestCase):
    def test_no_two_lists_are_one(self):
        for kind in [Aim, Worst, Even]:
            aim = kind(four_people(), WAY)
            told = [greatest(aim), greatest(aim)]
            # The answers' own tuples and the row that holds them are none that were told.
            self.assertTrue(all_unlike(told))
            aside = [aim.way, aim.house.beds, aim.house.worths] + aim.house.worths
            for one in lists_in(told[0]) + lists_in(told[1]):
                self.assertFalse(any(one is other for other in aside))

    def test_long_chains_share_nothing(self):
        for kind in [Worst, Even]:
            aim = kind(row_house(kind, 6, [3, 1, 5, 0, 4, 2]), list(range(6)))
            told = greatest(aim)
            self.assertTrue(all_unlike(told))
            kept = [list(chain) for chain in told[1]]
            for person in range(6):
                told[1][person].append("changed")
                others = [other for other in range(6) if other != person]
                self.assertEqual([told[1][other] for other in others], [kept[other] for other in others])
                told[1][person].pop()

    def test_a_told_list_that_is_changed(self):
        for kind in [Aim, Worst, Even]:
            aim = kind(four_people(), WAY)
            gains, chains = greatest(aim)
            kept = list(gains)
            gains[0] = 10 ** 50
            gains.append(7)
            for chain in chains:
                chain.append((9, 9, 9))
            chains.clear()
            again = greatest(aim)
            self.assertEqual(again[0], kept)
            self.assertEqual([chain_gain(aim, again[1][person], person) for person in range(4)], kept)
            self.assertEqual(aim.way, WAY)
            self.assertEqual(values(aim.house), values(four_people()))

    def test_what_is_handed_in_stays_as_it_was(self):
        for kind in [Aim, Worst, Even]:
            house = four_people()
            way = list(WAY)
            aim = kind(house, way)
            for chain in [[], [(0, 0, 1)], [(0, 1, 1)], [(3, 2, 2), (2, 3, 0), (0, 0, 1)], [(0, 0, 1), (2, 3, 0)],
                          [(9, -1, 9)] * 3]:
                handed = list(chain)
                chain_gain(aim, handed, 1)
                self.assertEqual(handed, chain)
                chains = [[], handed, [], []]
                bound(aim, chains)
                self.assertEqual(chains, [[], chain, [], []])
                self.assertIs(chains[1], handed)
            greatest(aim)
            self.assertEqual((way, aim.way), (WAY, WAY))
            self.assertEqual(values(house), values(four_people()))

    def test_chains_handed_back_in(self):
        for kind in [Worst, Even]:
            aim = kind(four_people(), WAY)
            told = greatest(aim)
            kept = [list(chain) for chain in told[1]]
            first = bound(aim, told[1])
            greatest(aim)
            self.assertEqual(bound(aim, told[1]), first)
            self.assertEqual(told[1], kept)


class TheExample(unittest.TestCase):
    def test_the_way_is_of_greatest_worth(self):
        self.assertIn(WAY, best_ways(four_people()))


if __name__ == "__main__":
    unittest.main()
