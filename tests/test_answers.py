"""Point 29: the answers of share, even, within and close, held against the functions that they speak of and against
what is fair; points 1 and 28 over whole made-up sheets."""

import unittest
from fractions import Fraction

from houses import FLAT, Numbers, all_unlike, best_ways, gain_of, greatest_both, is_fair, share_list, worth
from rentshare.aims import Even, Worst
from rentshare.amounts import show_amount, show_share
from rentshare.divide import divide
from rentshare.errors import TooMany
from rentshare.house import House
from rentshare.keep import kept_way
from rentshare.near import near_count, near_way
from rentshare.purses import row_bound, within_any
from rentshare.run import run
from rentshare.sheet import read_sheet

NAMES = ["ann", "bob", "cid", "dora", "e", "f", "gustavus", "h", "ida", "jo", "kim", "lou"]
ASKS = ["share", "even", "within", "close"]
GREATEST = "9" * 38 + ".99"


class Book:
    """What a sheet's orders have told, kept in another form than the program's: everything in flat dicts by names."""

    def __init__(self):
        self.rent = 0
        self.beds = {}
        self.wings = {}
        self.people = []
        self.worths = {}
        self.purses = {}
        self.pairs = set()
        self.given = {}

    def missing(self, word, rest):
        people = {"worth": rest[:1], "purse": rest[:1], "free": rest, "near": rest, "leave": rest}.get(word, ())
        rooms = rest[1:2] if word == "worth" else ()
        return any(name not in self.people for name in people) or any(name not in self.beds for name in rooms)

    def refusal(self, word, rest):
        there = {"room": list(self.beds), "person": self.people}.get(word, [])
        if self.missing(word, rest):
            return "name"
        if there and rest[0] in there:
            return "twice"
        if len(there) == 10:
            return "full"
        if word in ASKS and (not self.people or len(self.people) > sum(self.beds.values())):
            return "few"
        return None

    def note(self, word, rest):
        if word == "room":
            self.beds[rest[0]], self.wings[rest[0]] = rest[1:]
        elif word == "person":
            self.people.append(rest[0])
        elif word == "rent":
            self.rent = rest[0]
        elif word == "worth":
            self.worths[rest[:2]] = rest[2]
        elif word == "purse":
            self.purses[rest[0]] = rest[1]
        elif word == "free":
            self.purses.pop(rest[0], None)
        elif word == "near":
            self.pairs.add(frozenset(rest))
        else:
            self.forget(rest[0])

    def forget(self, name):
        self.people.remove(name)
        self.worths = {both: amount for both, amount in self.worths.items() if both[0] != name}
        self.purses.pop(name, None)
        self.given.pop(name, None)
        self.pairs = {pair for pair in self.pairs if name not in pair}

    def house(self):
        worths = [[self.worths.get((person, room), 0) for room in self.beds] for person in self.people]
        return House(list(self.beds.values()), worths, self.rent)

    def purse_list(self):
        return [self.purses.get(person) for person in self.people]

    def old(self):
        rooms = list(self.beds)
        return [rooms.index(self.given[person]) if person in self.given else None for person in self.people]

    def pair_list(self):
        return [tuple(sorted(self.people.index(name) for name in pair)) for pair in sorted(self.pairs, key=sorted)]

    def by_names(self, chain):
        rooms = list(self.beds)
        return [(self.people[a], rooms[r], self.people[b]) for a, r, b in chain]

    def by_numbers(self, chain):
        rooms = list(self.beds)
        return [(self.people.index(a), rooms.index(r), self.people.index(b)) for a, r, b in chain]

    def paper(self, rows):
        return [(row[0], *[self.people[k] for k in row[1:-1]], self.by_names(row[-1])) for row in rows]

    def named(self, way, prices):
        rooms = list(self.beds)
        self.given = dict(zip(self.people, [rooms[room] for room in way]))
        parts, rows = prices
        return list(self.given.items()), [(room, show_share(row, parts)) for room, row in zip(rooms, rows)]

    def answer(self, word):
        """By the functions that point 29 speaks of."""
        house = self.house()
        wings = list(self.wings.values())
        if word == "within":
            told = within_any(house, self.purse_list())
            if told[0] == "none":
                rooms = list(self.beds)
                return "none", [([rooms[room] for room in way], self.paper(rows)) for way, rows in told[1]]
            return ("within", *self.named(told[1], told[2]), self.paper(told[3]))
        way = near_way(house, wings, self.pair_list()) if word == "close" else kept_way(house, self.old())
        prices, chains = divide(Even(house, way) if word == "even" else Worst(house, way))
        answer = (word, *self.named(way, prices), [self.by_names(chain) for chain in chains])
        return answer + (near_count(way, wings, self.pair_list()),) if word == "close" else answer

    def do(self, order):
        word, rest = order[0], order[1:]
        refusal = self.refusal(word, rest)
        if refusal is not None:
            return "refused", refusal
        if word not in ASKS:
            return self.note(word, rest)
        try:
            return self.answer(word)
        except TooMany:
            return "refused", "many"


def number_in(text):
    """What show_share wrote, exactly."""
    whole, plus, rest = text.partition("+")
    return Fraction(whole) * 100 + (Fraction(rest) if plus else 0)


def made_amount(numbers, size):
    return show_amount(numbers.between(-size, size))


def made_row(numbers, names, size):
    def name():
        return names[numbers.below(len(names))]

    word = ["room", "person", "worth", "worth", "worth", "worth", "rent", "purse", "purse", "free", "near", "near",
            "leave", "share", "share", "even", "within", "close"][numbers.below(18)]
    amount = made_amount(numbers, size)
    one = name()
    other = [other for other in names if other != one][numbers.below(len(names) - 1)]
    return {
        "room": f"room {one} {numbers.between(1, 2)} {['x', 'y'][numbers.below(2)]}",
        "person": f"person {one}",
        "worth": f"worth {one} {name()} {amount}",
        "rent": f"rent {amount}",
        "purse": f"purse {one} {amount}",
        "free": f"free {one}",
        "near": f"near {one} {other}",
        "leave": f"leave {one}",
    }.get(word, word)


def made_sheet(numbers, count, rows, size):
    """Rooms and people enough to begin with, then any orders."""
    names = NAMES[:count]
    begin = [f"room {name} 1 {['x', 'y'][place % 2]}" for place, name in enumerate(names[:count - 1])]
    begin = begin + [f"person {name}" for name in names[1:]]
    return "\n".join(begin + [made_row(numbers, names, size) for row in range(rows)])


def full_sheet(numbers, amount, asks, beds="1"):
    """Ten rooms, ten people, each with a worth for each room; then what is asked."""
    rooms = NAMES[:10]
    people = NAMES[2:]
    rows = [f"room {room} {beds} {['x', 'y', 'z'][numbers.below(3)]}" for room in rooms]
    rows = rows + [f"person {person}" for person in people]
    rows = rows + [f"worth {person} {room} {amount()}" for person in people for room in rooms]
    return "\n".join(rows + asks)


class Case(unittest.TestCase):
    def check(self, text):
        """Tells the answers, which are as they're due by the book, and each fair with the book as it is then."""
        told = run(text)
        book = Book()
        due = []
        for order in read_sheet(text):
            old = dict(book.given)
            answer = book.do(order)
            if answer is not None:
                self.assertEqual(told[len(due):len(due) + 1], [answer], (text, order))
                due.append(answer)
                self.hold(book, old, answer)
        self.assertEqual(told, due, text)
        self.assertTrue(all_unlike(told))
        return told

    def hold(self, book, old, answer):
        if answer[0] == "none":
            self.hold_none(book, answer)
        elif answer[0] != "refused":
            self.hold_prices(book, old, answer)

    def hold_prices(self, book, old, answer):
        """Everybody has a bed, the worth is greatest, the prices are fair, and what comes behind shows how good."""
        house = book.house()
        rooms = list(book.beds)
        self.assertEqual([person for person, room in answer[1]], book.people)
        self.assertEqual([room for room, text in answer[2]], rooms)
        way = [rooms.index(room) for person, room in answer[1]]
        had = [rooms.index(old[person]) if person in old else None for person in book.people]
        most, stay = greatest_both(house, had)
        self.assertEqual(worth(house, way), most)
        if answer[0] in ("share", "even"):
            self.assertEqual(sum(room == one for room, one in zip(way, had)), stay)
        costs = [number_in(text) for room, text in answer[2]]
        # 2520 is a whole number of each number of parts that there may be.
        self.assertTrue(all((cost * 2520).denominator == 1 for cost in costs))
        prices = (2520, [int(cost * 2520) for cost in costs])
        self.assertTrue(is_fair(house, way, prices), answer)
        if answer[0] == "within":
            self.hold_paper(book, house, way, prices, answer[3])
        else:
            aim = Even(house, way) if answer[0] == "even" else Worst(house, way)
            gains = [gain_of(aim, book.by_numbers(chain), place) for place, chain in enumerate(answer[3])]
            levels = [costs[room] for room in way] if answer[0] == "even" else share_list(house, way, prices)
            least = Fraction(aim.whole() - sum(gains), len(way))
            self.assertEqual(levels, [least + gain for gain in gains])

    def hold_paper(self, book, house, way, prices, paper):
        purses = book.purse_list()
        for person, room in enumerate(way):
            if purses[person] is not None:
                self.assertLessEqual(Fraction(prices[1][room], prices[0]), purses[person])
        free = [row[0] for row in paper].count("free")
        least = Fraction(worth(house, way) - house.rent - sum(self.bounds(book, house, way, paper)), free)
        self.assertEqual(min(share_list(house, way, prices)), least)

    def hold_none(self, book, answer):
        house = book.house()
        rooms = list(book.beds)
        for lies, paper in answer[1]:
            way = [rooms.index(room) for room in lies]
            self.assertEqual({row[0] for row in paper}, {"purse"})
            self.assertGreater(sum(self.bounds(book, house, way, paper)), worth(house, way) - house.rent)
        if len(rooms) ** len(book.people) <= 3000:
            self.assertEqual([[rooms.index(room) for room in lies] for lies, paper in answer[1]], best_ways(house))

    def bounds(self, book, house, way, paper):
        self.assertEqual(len(paper), len(way))
        found = []
        for person, row in enumerate(paper):
            row = (row[0], *[book.people.index(name) for name in row[1:-1]], book.by_numbers(row[-1]))
            found.append(row_bound(house, way, book.purse_list(), row, person))
        self.assertNotIn(None, found)
        return found


class ByHand(Case):
    lies = [("ann", "small"), ("bob", "big"), ("cid", "big")]

    def test_share(self):
        chains = [[("bob", "big", "ann")], [], [("bob", "big", "cid")]]
        costs = [("big", "246.66+2/3"), ("small", "406.66+2/3")]
        self.assertEqual(self.check(FLAT + "\nshare"), [("share", self.lies, costs, chains)])

    def test_even(self):
        chains = [[("bob", "small", "ann")], [], []]
        costs = [("big", "250.00"), ("small", "400.00")]
        self.assertEqual(self.check(FLAT + "\neven"), [("even", self.lies, costs, chains)])

    def test_close(self):
        chains = [[("bob", "big", "ann")], [], [("bob", "big", "cid")]]
        costs = [("big", "246.66+2/3"), ("small", "406.66+2/3")]
        for near, count in [("", 0), ("near ann bob\n", 0), ("near cid bob\n", 1), ("near bob cid\nnear ann cid\n", 1)]:
            self.assertEqual(self.check(FLAT + "\n" + near + "close"), [("close", self.lies, costs, chains, count)])

    def test_within(self):
        paper = [("purse", "ann", []), ("free", []), ("free", [("bob", "big", "cid")])]
        costs = [("big", "247.50"), ("small", "405.00")]
        self.assertEqual(self.check(FLAT + "\npurse ann 405.00\nwithin"), [("within", self.lies, costs, paper)])
        paper = [("free", [("bob", "big", "ann")]), ("free", []), ("free", [("bob", "big", "cid")])]
        costs = [("big", "246.66+2/3"), ("small", "406.66+2/3")]
        self.assertEqual(self.check(FLAT + "\nwithin"), [("within", self.lies, costs, paper)])

    def test_none(self):
        paper = [("purse", "cid", [("cid", "big", "ann")]), ("purse", "cid", [("cid", "big", "bob")]),
                 ("purse", "cid", [])]
        told = self.check(FLAT + "\npurse cid 200.00\nwithin")
        self.assertEqual(told, [("none", [(["small", "big", "big"], paper)])])

    def test_none_of_several_ways(self):
        text = "room a 1 w\nroom b 1 w\nperson p\nperson q\nrent 10.00\npurse q 4.99\nwithin"
        told = self.check(text)
        self.assertEqual(told[0][0], "none")
        self.assertEqual([rooms for rooms, paper in told[0][1]], [["a", "b"], ["b", "a"]])

    def test_empty_rooms_have_a_price(self):
        text = "room a 1 w\nroom b 2 w\nroom c 1 w\nperson p\nworth p b 9.00\nrent 4.00\n"
        for ask in ASKS:
            told = self.check(text + ask)[0]
            self.assertEqual(told[1:3], ([("p", "b")], [("a", "4.00"), ("b", "4.00"), ("c", "4.00")]))
            self.assertEqual(told[3], [("free", [])] if ask == "within" else [[]])

    def test_prices_below_nought_and_parts(self):
        text = "room a 2 w\nroom b 1 w\nperson p\nperson q\nperson r\nworth p b 1.00\nworth q b 1.00\nworth r b 1.00\n"
        told = self.check(text + "rent -0.01\nshare")[0]
        # Two in a and one in b: all are alike, so b costs 1.00 more.
        self.assertEqual([number_in(text) for room, text in told[2]], [Fraction(-101, 3), Fraction(199, 3)])
        self.assertEqual(told[2], [("a", "-0.34+1/3"), ("b", "0.66+1/3")])

    def test_names_not_numbers(self):
        # Names in an order that isn't theirs by letters, in chains and papers either.
        text = "room z 1 w\nroom a 1 w\nperson y\nperson b\nworth y z 9.00\nworth b z 8.00\nrent 3.00\n"
        told = self.check(text + "share\npurse y 5.00\nwithin\npurse y 1.00\nwithin")
        self.assertEqual(told[0][1], [("y", "z"), ("b", "a")])
        self.assertEqual([room for room, text in told[0][2]], ["z", "a"])
        self.assertEqual([answer[0] for answer in told], ["share", "none", "none"])


class MadeUp(Case):
    def count(self, text, seen):
        for answer in self.check(text):
            word = answer[1] if answer[0] == "refused" else answer[0]
            seen[word] = seen.get(word, 0) + 1

    def test_small_sheets(self):
        numbers = Numbers(130)
        seen = {}
        for turn in range(250):
            self.count(made_sheet(numbers, numbers.between(3, 5), 40, [1, 3, 500][turn % 3]), seen)
        # Five names never make ten rooms or people, so nothing is full.
        self.assertEqual(sorted(seen), sorted(ASKS + ["none", "name", "twice", "few", "many"]))
        self.assertGreater(min(seen.values()), 20, seen)

    def test_great_sheets(self):
        numbers = Numbers(131)
        seen = {}
        for turn in range(12):
            size = [2, 9, 5000][turn % 3]
            rows = [made_row(numbers, NAMES, size) for row in range(79)]
            self.count(full_sheet(numbers, lambda: made_amount(numbers, size), rows), seen)
        # Ten beds are never too few for ten people.
        self.assertEqual(sorted(seen), sorted(ASKS + ["none", "name", "twice", "full", "many"]))
        self.assertGreater(min(seen.values()), 4, seen)

    def test_what_is_refused_changes_nothing(self):
        numbers = Numbers(132)
        for turn in range(60):
            text = made_sheet(numbers, numbers.between(3, 12), 50, [1, 3, 500][turn % 3])
            book = Book()
            rows = []
            for row in text.split("\n"):
                answer = book.do(read_sheet(row)[0])
                if answer is None or answer[0] != "refused":
                    rows.append(row)
            self.assertEqual(run("\n".join(rows)), [answer for answer in run(text) if answer[0] != "refused"], text)

    def test_later_orders_change_no_answer(self):
        numbers = Numbers(133)
        for turn in range(10):
            rows = made_sheet(numbers, 5, 40, 3).split("\n")
            told = run("\n".join(rows))
            for count in range(len(rows)):
                begun = run("\n".join(rows[:count]))
                self.assertEqual(begun, told[:len(begun)])

    def test_ten_rooms_and_ten_people(self):
        numbers = Numbers(134)
        asks = ["rent 900.00", "share", "even", "near cid jo", "near ida kim", "near lou e", "close", "purse cid 95.00",
                "purse jo 120.50", "within", "leave dora", "person ann", "worth ann bob 99.99", "share", "close",
                "purse ann -900.00", "within", "even"]
        for turn in range(4):
            text = full_sheet(numbers, lambda: made_amount(numbers, 20000), asks, "12"[turn % 2])
            self.assertEqual([answer[0] for answer in self.check(text)][:3], ["share", "even", "close"])

    def test_amounts_of_thirty_eight_figures(self):
        numbers = Numbers(135)
        asks = [f"rent {GREATEST}", "share", "even", "near cid jo", "close", f"purse cid {GREATEST}", "within",
                f"rent -{GREATEST}", "share", "even", "close", f"purse jo -{GREATEST}", "within"]
        for turn in range(3):
            text = full_sheet(numbers, lambda: made_amount(numbers, 10 ** 40 - 1), asks)
            self.check(text)
        # Worths as far apart as they may be.
        text = full_sheet(numbers, lambda: ["", "-"][numbers.below(2)] + GREATEST, asks)
        self.check(text)

    def test_who_stays(self):
        # All rooms are worth the same to all, so whoever has been given a room stays in it.
        numbers = Numbers(136)
        rows = [f"room {name} 1 w" for name in NAMES[:10]]
        for turn in range(10):
            people = numbers.mixed(NAMES)[:8]
            come = [f"person {name}" for name in people[:5]]
            later = [f"person {name}" for name in people[5:]]
            told = self.check("\n".join(rows + come + ["share"] + later + ["even", f"leave {people[2]}", "share"]))
            first, second, third = [dict(answer[1]) for answer in told]
            self.assertEqual({name: second[name] for name in first}, first)
            self.assertEqual({**third, people[2]: second[people[2]]}, second)


if __name__ == "__main__":
    unittest.main()
