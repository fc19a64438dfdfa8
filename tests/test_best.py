"""Point 9: a way of greatest worth; points 1 and 3 for it."""

import unittest

from houses import (GREAT, Numbers, best_ways, every_way, fits, greatest_worth, made_beds, made_house, planted, values,
                    worth)
from rentshare.best import best_way
from rentshare.house import House


class Best(unittest.TestCase):
    def check(self, house):
        way = best_way(house)
        self.assertIs(type(way), list)
        self.assertTrue(all(type(room) is int for room in way), way)
        self.assertTrue(fits(house, way), (values(house), way))
        self.assertEqual(worth(house, way), greatest_worth(house), (values(house), way))
        return way

    def test_one_room_and_one_person(self):
        for amount in [0, 5, -5, GREAT, -GREAT]:
            for beds in range(1, 5):
                self.assertEqual(self.check(House([beds], [[amount]], 100)), [0])

    def test_one_room_of_several_beds(self):
        self.assertEqual(self.check(House([4], [[3], [-2], [0], [9]], 0)), [0, 0, 0, 0])
        self.assertEqual(self.check(House([4], [[3], [-2]], 0)), [0, 0])

    def test_one_person_and_several_rooms(self):
        self.assertEqual(self.check(House([1, 1, 1], [[3, 7, 5]], 0)), [1])
        self.assertEqual(self.check(House([1, 4, 1], [[-3, -7, -2]], 0)), [2])
        self.assertEqual(self.check(House([2, 1], [[0, -1]], 0)), [0])

    def test_as_many_people_as_beds(self):
        self.assertEqual(self.check(House([1, 1], [[10, 9], [10, 0]], 0)), [1, 0])
        self.assertEqual(self.check(House([1, 1, 1], [[9, 8, 0], [9, 0, 0], [0, 9, 8]], 0)), [1, 0, 2])
        self.assertEqual(self.check(House([2, 1], [[30, 45], [25, 40], [35, 30]], 90)), [1, 0, 0])

    def test_fewer_people_than_beds(self):
        self.assertEqual(self.check(House([1, 1, 1], [[10, 9, 1], [10, 0, 5]], 0)), [1, 0])
        self.assertEqual(self.check(House([1, 1, 2], [[10, 0, 4], [11, 0, 8]], 0)), [0, 2])
        self.assertEqual(self.check(House([2, 2], [[1, 2], [3, 5]], 0)), [1, 1])

    def test_rooms_of_several_beds(self):
        self.assertEqual(self.check(House([2, 2], [[9, 0], [9, 1], [9, 3], [9, 4]], 0)), [0, 0, 1, 1])
        self.assertEqual(self.check(House([3, 1], [[5, 9], [5, 8], [5, 7], [5, 6]], 0)), [1, 0, 0, 0])
        self.assertEqual(self.check(House([1, 4], [[5, 0], [5, 4], [5, 3]], 0)), [0, 1, 1])

    def test_all_beds_of_a_room_are_used(self):
        self.assertEqual(self.check(House([4, 4], [[1, 0] for person in range(4)], 0)), [0, 0, 0, 0])
        self.assertEqual(self.check(House([4, 4, 4], [[0, 0, 1] for person in range(4)], 0)), [2, 2, 2, 2])

    def test_worths_that_are_all_the_same(self):
        for amount in [0, 7, -7, GREAT, -GREAT]:
            for beds in [[1], [1, 1, 1], [2, 1, 3], [4, 4, 4], [1] * 10]:
                for people in range(1, min(10, sum(beds)) + 1):
                    self.check(House(beds, [[amount] * len(beds) for person in range(people)], 0))

    def test_people_who_tell_the_same(self):
        self.check(House([1, 2, 1], [[5, -3, 2] for person in range(4)], 0))
        self.check(House([1, 2, 4], [[5, -3, 2] for person in range(4)], 0))

    def test_worths_below_nought(self):
        self.assertEqual(self.check(House([1, 1], [[-10, -9], [-10, -20]], 0)), [1, 0])
        self.assertEqual(self.check(House([1, 1, 1], [[-1, -2, -90], [-1, -9, -80]], 0)), [1, 0])
        self.assertEqual(self.check(House([1, 2], [[-5, -6], [-5, -7], [-5, -9]], 0)), [1, 1, 0])

    def test_the_rent_doesnt_count(self):
        for rent in [-GREAT, -1, 0, 1, GREAT]:
            self.assertEqual(self.check(House([1, 1], [[10, 9], [10, 0]], rent)), [1, 0])

    def test_worths_of_forty_figures(self):
        # One hundredth in 40 figures makes the difference.
        house = House([1, 1], [[GREAT, GREAT - 1], [GREAT, GREAT - 2]], 0)
        self.assertEqual(self.check(house), [1, 0])
        house = House([1, 1, 1], [[-GREAT, 1 - GREAT, -GREAT], [1 - GREAT, 2 - GREAT, -GREAT]], 0)
        self.check(house)
        house = House([1, 1], [[GREAT, -GREAT], [GREAT, GREAT]], 0)
        self.assertEqual(self.check(house), [0, 1])
        house = House([1, 1], [[-GREAT, GREAT], [-GREAT, GREAT - 1]], 0)
        self.assertEqual(self.check(house), [1, 0])

    def test_ten_people_at_the_least_worths(self):
        # The worth of a way lies far below each single amount here.
        worths = [[-GREAT] * 10 for person in range(10)]
        self.check(House([1] * 10, worths, 0))
        worths[7][2] = 1 - GREAT
        worths[3][2] = 2 - GREAT
        worths[3][9] = 2 - GREAT
        way = self.check(House([1] * 10, worths, 0))
        self.assertEqual((way[3], way[7]), (9, 2))

    def test_everybody_makes_place(self):
        # Person k has room k, and little less from the next one; the one who comes wants nothing but somebody's room.
        for people in [3, 4, 7, 10]:
            for wanted in range(people):
                worths = [[0] * people for person in range(people)]
                for person in range(people - 1):
                    worths[person][(person + wanted) % people] = 100
                    worths[person][(person + wanted + 1) % people] = 99
                worths[people - 1][wanted] = 10000
                shifted = [(person + wanted + 1) % people for person in range(people - 1)]
                self.assertEqual(self.check(House([1] * people, worths, 0)), shifted + [wanted])
                # The same with the people in the other order.
                self.assertEqual(self.check(House([1] * people, worths[::-1], 0)), [wanted] + shifted[::-1])

    def test_all_must_turn_round(self):
        # Only a round of all people together is better than that everybody stays in their own room.
        for people in [2, 3, 5, 10]:
            worths = [[-50] * people for person in range(people)]
            for person in range(people):
                worths[person][person] = 10
                worths[person][(person + 1) % people] = 11
            turned = [(person + 1) % people for person in range(people)]
            self.assertEqual(self.check(House([1] * people, worths, 0)), turned)


class AgainstAllWays(unittest.TestCase):
    def check(self, house):
        way = best_way(house)
        ways = every_way(house)
        self.assertIn(way, ways)
        most = max(worth(house, other) for other in ways)
        self.assertEqual(worth(house, way), most, (values(house), way))

    def test_three_rooms_and_four_people(self):
        numbers = Numbers(9)
        for beds in [[2, 1, 1], [1, 2, 1], [1, 1, 2], [2, 2, 1], [1, 3, 2], [2, 2, 2], [4, 1, 1], [1, 1, 4], [4, 4, 4]]:
            for most in [1, 3, 10, 1000, GREAT]:
                for turn in range(6):
                    self.check(made_house(numbers, beds, 4, most))

    def test_other_small_houses(self):
        numbers = Numbers(90)
        for turn in range(150):
            rooms = numbers.between(1, 4)
            people = numbers.between(1, 4)
            self.check(made_house(numbers, made_beds(numbers, rooms, people), people, numbers.between(1, 12)))

    def test_all_worths_of_two_people_and_two_rooms(self):
        for code in range(3 ** 4):
            figures = [code // 3 ** place % 3 - 1 for place in range(4)]
            for beds in [[1, 1], [2, 1], [1, 2], [2, 2]]:
                self.check(House(beds, [figures[:2], figures[2:]], 0))


class Large(unittest.TestCase):
    def test_ten_rooms_and_ten_people(self):
        numbers = Numbers(10)
        for most in [2, 20, 10 ** 6, GREAT]:
            for turn in range(3):
                house = made_house(numbers, [1] * 10, 10, most)
                way = best_way(house)
                self.assertTrue(fits(house, way))
                self.assertEqual(worth(house, way), greatest_worth(house), values(house))

    def test_ten_people_in_few_rooms(self):
        numbers = Numbers(11)
        for beds in [[4, 4, 2], [4, 4, 4], [1, 2, 3, 4], [2, 2, 2, 2, 2], [1, 1, 4, 4, 1], [3, 2, 3, 1, 2]]:
            for most in [5, 1000, GREAT]:
                house = made_house(numbers, beds, 10, most)
                way = best_way(house)
                self.assertTrue(fits(house, way))
                self.assertEqual(worth(house, way), greatest_worth(house), values(house))

    def test_the_only_one(self):
        numbers = Numbers(12)
        for turn in range(12):
            for size in [10, 10 ** 6, 10 ** 39 * 4]:
                beds = [numbers.between(1, 4) for room in range(10)] if turn % 3 else [1] * 10
                house, way = planted(numbers, beds, 10, size)
                self.assertEqual(best_way(house), way, values(house))


class Own(unittest.TestCase):
    def houses(self):
        numbers = Numbers(13)
        yield House([1], [[5]], 7)
        for turn in range(10):
            people = numbers.between(1, 5)
            yield made_house(numbers, made_beds(numbers, 4, people), people, 30, rent=100)

    def test_the_house_stays_as_it_was(self):
        for house in self.houses():
            before = values(house)
            best_way(house)
            self.assertEqual(values(house), before)

    def test_a_told_way_that_is_changed(self):
        for house in self.houses():
            before = values(house)
            ways = best_ways(house)
            first = best_way(house)
            kept = list(first)
            second = best_way(house)
            self.assertIsNot(first, second)
            second[0] = 99
            second.append(98)
            self.assertEqual(first, kept)
            first.clear()
            self.assertIn(best_way(house), ways)
            self.assertEqual(values(house), before)

    def test_a_told_way_is_none_of_the_houses_lists(self):
        # Beds and worths that look like the way itself.
        house = House([1, 1], [[0, 1], [0, 1]], 0)
        way = best_way(house)
        way[0] = 77
        way[1] = 78
        self.assertEqual(values(house), ([1, 1], [[0, 1], [0, 1]], 0))

    def test_each_house_by_itself(self):
        one = House([1, 1], [[5, 0], [0, 5]], 0)
        other = House([1, 1], [[0, 5], [5, 0]], 0)
        self.assertEqual((best_way(one), best_way(other), best_way(one)), ([0, 1], [1, 0], [0, 1]))


if __name__ == "__main__":
    unittest.main()
