"""Points 28 and 29, order by order: what a sheet's orders note, and what is refused; points 1 and 3 for the answers."""

import unittest

from houses import FLAT, all_unlike, lists_in
from rentshare.errors import NoLine, RentError
from rentshare.run import run

ASKS = ["share", "even", "within", "close"]
TEN = list("abcdefghij")


def sheet(*rows):
    return "\n".join(rows)


def refused(*words):
    return [("refused", word) for word in words]


def lies(answer):
    return dict(answer[1])


def costs(answer):
    return dict(answer[2])


def liked(person, *rooms):
    """Each of these rooms is worth 10.00 to the person."""
    return sheet(*[f"worth {person} {room} 10.00" for room in rooms])


class Case(unittest.TestCase):
    def answers(self, *rows):
        told = run(sheet(*rows))
        self.assertIs(type(told), list)
        for answer in told:
            self.assertIs(type(answer), tuple)
        return told

    def answer(self, *rows):
        told = self.answers(*rows)
        self.assertEqual(len(told), 1, told)
        return told[0]

    def check(self, told, *rows):
        self.assertEqual(self.answers(*rows), told, sheet(*rows))


class Sheets(Case):
    def test_an_empty_sheet(self):
        self.check([], "")
        self.check([], "", "", "")

    def test_orders_that_give_no_answer(self):
        self.check([], FLAT)
        self.check([], FLAT, "purse ann 1.00", "free ann", "near ann bob", "leave ann")

    def test_answers_come_in_the_order_of_their_orders(self):
        told = self.answers(FLAT, "share", "leave dan", "even", "purse cid 0.00", "within", "close", "purse cid 999.00",
                            "within")
        self.assertEqual([answer[0] for answer in told], ["share", "refused", "even", "none", "close", "within"])

    def test_a_bad_row_anywhere_refuses_the_whole_sheet(self):
        rows = sheet(FLAT, "share", "", "leave dan", "even").split("\n")
        for place in range(len(rows) + 1):
            for bad in ["bad", "share ", "near ann ann", "room a 5 w", "rent 1"]:
                with self.assertRaises(NoLine) as caught:
                    run("\n".join(rows[:place] + [bad] + rows[place:]))
                self.assertEqual(caught.exception.line, place + 1)
                self.assertIsInstance(caught.exception, RentError)

    def test_the_first_bad_row_is_told(self):
        with self.assertRaises(NoLine) as caught:
            run(sheet("", "share", "", "person Ann", "bad"))
        self.assertEqual(caught.exception.line, 4)

    def test_a_sheet_begins_with_nothing(self):
        # Nothing is left from another sheet.
        told = run(sheet(FLAT, "share"))
        self.check(refused("few"), "share")
        self.check(refused("name"), "leave ann")
        self.check([("share", [("ann", "big")], [("big", "0.00")], [[]])], "person ann", "room big 1 east", "share")
        self.assertEqual(run(sheet(FLAT, "share")), told)


class Notes(Case):
    def test_the_rent_is_nought_at_first(self):
        self.check([("share", [("p", "a")], [("a", "0.00")], [[]])], "room a 1 w", "person p", "share")
        self.check([("even", [("p", "a")], [("a", "0.00")], [[]])], "room a 1 w", "person p", "worth p a 5.00", "even")

    def test_a_later_rent_replaces(self):
        begin = sheet("room a 1 w", "person p")
        self.assertEqual(self.answer(begin, "rent 7.50", "share")[2], [("a", "7.50")])
        self.assertEqual(self.answer(begin, "rent 7.50", "rent 3.00", "share")[2], [("a", "3.00")])
        self.assertEqual(self.answer("rent 7.50", "rent -3.05", begin, "share")[2], [("a", "-3.05")])
        self.assertEqual(self.answer("rent 7.50", begin, "rent 0.00", "even")[2], [("a", "0.00")])
        told = self.answers(begin, "rent 7.50", "share", "rent 8.00", "share", "rent 7.50", "share")
        self.assertEqual([costs(answer)["a"] for answer in told], ["7.50", "8.00", "7.50"])

    def test_worths_are_nought_until_told(self):
        begin = sheet("room a 1 w", "room b 1 w", "person p", "person q", "worth q a 10.00")
        answer = self.answer(begin, "share")
        self.assertEqual(answer[1:3], ([("p", "b"), ("q", "a")], [("a", "5.00"), ("b", "-5.00")]))
        # p rather has what is worth nought than what is worth less.
        answer = self.answer(begin, "worth q a 0.00", "worth p a -0.01", "share")
        self.assertEqual(answer[1], [("p", "b"), ("q", "a")])
        answer = self.answer(begin, "worth q a 0.00", "worth p b -0.01", "share")
        self.assertEqual(answer[1], [("p", "a"), ("q", "b")])

    def test_worths_are_nought_for_a_new_room(self):
        begin = sheet("room a 1 w", "person p", "person q", "worth p a 10.00", "worth q a 20.00", "rent 6.00")
        answer = self.answer(begin, "room b 1 w", "share")
        # Half of 20.00 less the rent are 7.00 for each.
        self.assertEqual(answer[1:3], ([("p", "b"), ("q", "a")], [("a", "13.00"), ("b", "-7.00")]))
        begin = sheet("room a 1 w", "person p", "worth p a -10.00", "share", "room b 1 w", "share")
        self.assertEqual([answer[1] for answer in self.answers(begin)], [[("p", "a")], [("p", "b")]])
        # And for a room and a person that both come late.
        answer = self.answers(begin, "room c 1 w", "person q", "worth q b 3.00", "share")[-1]
        self.assertEqual(answer[1], [("p", "c"), ("q", "b")])

    def test_a_later_worth_replaces(self):
        begin = sheet("room a 1 w", "room b 1 w", "person p", "worth p a 10.00", "worth p b 7.00")
        self.assertEqual(lies(self.answer(begin, "share")), {"p": "a"})
        self.assertEqual(lies(self.answer(begin, "worth p b 10.01", "share")), {"p": "b"})
        self.assertEqual(lies(self.answer(begin, "worth p a 6.99", "share")), {"p": "b"})
        self.assertEqual(lies(self.answer(begin, "worth p a 0.00", "share")), {"p": "b"})
        self.assertEqual(lies(self.answer(begin, "worth p b 20.00", "worth p b 7.00", "share")), {"p": "a"})
        # Told again it isn't added.
        self.assertEqual(lies(self.answer(begin, "worth p b 7.00", "worth p b 7.00", "share")), {"p": "a"})

    def test_a_worth_is_one_persons_for_one_room(self):
        begin = sheet("room a 1 w", "room b 1 w", "person p", "person q")
        self.assertEqual(lies(self.answer(begin, liked("p", "a"), "share")), {"p": "a", "q": "b"})
        self.assertEqual(lies(self.answer(begin, liked("p", "b"), "share")), {"p": "b", "q": "a"})
        self.assertEqual(lies(self.answer(begin, liked("q", "a"), "share")), {"p": "b", "q": "a"})
        self.assertEqual(lies(self.answer(begin, liked("q", "b"), "share")), {"p": "a", "q": "b"})

    def test_purses(self):
        begin = sheet("room a 1 w", "person p", "rent 10.00")
        kept = ("within", [("p", "a")], [("a", "10.00")], [("free", [])])
        none = ("none", [(["a"], [("purse", "p", [])])])
        self.check([kept], begin, "within")
        self.check([none], begin, "purse p 9.99", "within")
        self.assertEqual(self.answer(begin, "purse p 10.00", "within")[:3], kept[:3])
        # A later one replaces.
        self.check([none], begin, "purse p 10.00", "purse p 9.99", "within")
        self.assertEqual(self.answer(begin, "purse p 9.99", "purse p 10.00", "within")[:3], kept[:3])
        # free takes it away, and nothing where there is none.
        self.check([kept], begin, "purse p 9.99", "free p", "within")
        self.check([kept], begin, "free p", "within")
        self.check([none], begin, "purse p 10.00", "free p", "purse p 9.99", "within")
        # A purse of nought or below is one.
        self.check([none], begin, "purse p 0.00", "within")
        self.check([none], begin, "purse p -1.00", "within")
        self.check([kept, none, kept], begin, "within", "purse p 0.00", "within", "free p", "within")

    def test_a_purse_is_one_persons(self):
        begin = sheet("room a 1 w", "room b 1 w", "person p", "person q", "rent 10.00", "worth p a 4.00")
        self.assertEqual(costs(self.answer(begin, "within")), {"a": "7.00", "b": "3.00"})
        self.assertEqual(costs(self.answer(begin, "purse p 6.00", "within")), {"a": "6.00", "b": "4.00"})
        self.assertEqual(costs(self.answer(begin, "purse q 3.50", "within")), {"a": "7.00", "b": "3.00"})
        self.assertEqual(self.answer(begin, "purse q 2.99", "within")[0], "none")
        self.assertEqual(costs(self.answer(begin, "purse q 2.99", "purse p 6.00", "free q", "within")),
                         {"a": "6.00", "b": "4.00"})
        # Purses bind nobody by share, even and close.
        told = self.answers(begin, "share", "even", "close", "purse p 6.00", "share", "even", "close")
        self.assertEqual(told[:3], told[3:])

    def test_pairs(self):
        begin = sheet("room a 1 x", "room b 1 y", "room c 1 x", "person p", "person q", "person r")
        answer = self.answer(begin, "close")
        self.assertEqual((answer[1], answer[4]), ([("p", "a"), ("q", "b"), ("r", "c")], 0))
        for rows in [["near p q"], ["near q p"], ["near p q", "near q p"], ["near q p", "near q p", "near p q"]]:
            answer = self.answer(begin, *rows, "close")
            self.assertEqual((answer[1], answer[4]), ([("p", "a"), ("q", "c"), ("r", "b")], 1), rows)
        # Two pairs count two, told once or twice.
        begin = sheet("room a 3 x", "person r", "person p", "person q", "near p q", "near q r")
        self.assertEqual(self.answer(begin, "close")[4], 2)
        self.assertEqual(self.answer(begin, "near r q", "near p q", "near q p", "close")[4], 2)
        self.assertEqual(self.answer(begin, "near r p", "near p r", "close")[4], 3)

    def test_leave_takes_the_person(self):
        told = self.answers(FLAT, "leave bob", "share", "leave ann", "share", "leave cid", "share")
        self.assertEqual([answer[0] for answer in told], ["share", "share", "refused"])
        self.assertEqual(told[0][1], [("ann", "small"), ("cid", "big")])
        self.assertEqual(told[1][1], [("cid", "big")])
        self.assertEqual(told[1][2], [("big", "900.00"), ("small", "900.00")])
        self.check(refused("name"), FLAT, "leave bob", "leave bob")
        self.check(refused("name", "name", "name"), FLAT, "leave bob", "worth bob big 1.00", "purse bob 1.00",
                   "near bob cid")

    def test_leave_takes_the_worths(self):
        begin = sheet("room a 1 w", "room b 1 w", "person p", "person q", "worth p a 90.00", "worth q a 10.00")
        self.assertEqual(lies(self.answer(begin, "share")), {"p": "a", "q": "b"})
        self.assertEqual(lies(self.answer(begin, "leave p", "person p", "share")), {"p": "b", "q": "a"})
        # The others keep theirs.
        self.assertEqual(lies(self.answer(begin, "leave p", "person r", "share")), {"r": "b", "q": "a"})
        self.assertEqual(lies(self.answer(begin, "leave q", "person r", "worth r a 80.00", "share")),
                         {"p": "a", "r": "b"})

    def test_leave_takes_the_purse(self):
        begin = sheet("room a 1 w", "room b 1 w", "person p", "person q", "rent 10.00", "purse p 1.00", "purse q 1.00")
        self.assertEqual(self.answer(begin, "within")[0], "none")
        self.assertEqual(self.answer(begin, "leave p", "person p", "leave q", "person q", "within")[0], "within")
        self.assertEqual(self.answer(begin, "leave p", "leave q", "person p", "within")[0], "within")
        # The other one keeps theirs.
        self.assertEqual(self.answer(begin, "leave p", "person p", "within")[0], "none")
        self.assertEqual(self.answer(begin, "leave q", "within")[0], "none")
        self.assertEqual(self.answer(begin, "free p", "leave q", "within")[0], "within")

    def test_leave_takes_the_pairs(self):
        begin = sheet("room a 4 w", "person p", "person q", "person r", "near p q", "near r q", "near p r")
        self.assertEqual(self.answer(begin, "close")[4], 3)
        self.assertEqual(self.answer(begin, "leave q", "close")[4], 1)
        self.assertEqual(self.answer(begin, "leave q", "person q", "close")[4], 1)
        self.assertEqual(self.answer(begin, "leave p", "person p", "close")[4], 1)
        self.assertEqual(self.answer(begin, "leave r", "person r", "near r p", "close")[4], 2)
        self.assertEqual(self.answer(begin, "leave r", "leave p", "person p", "person r", "close")[4], 0)

    def test_pairs_stay_with_their_people_when_another_leaves(self):
        # With p away, q and r are the first and the second.
        begin = sheet("room a 1 x", "room b 1 y", "room c 1 x", "room d 1 z", "person p", "person q", "person r",
                      "person s")
        answer = self.answer(begin, "near q r", "leave p", "close")
        self.assertEqual((answer[1], answer[4]), ([("q", "a"), ("r", "c"), ("s", "b")], 1))
        answer = self.answer(begin, "near s q", "leave p", "close")
        self.assertEqual((answer[1], answer[4]), ([("q", "a"), ("r", "b"), ("s", "c")], 1))

    def test_a_returning_name_comes_behind(self):
        begin = sheet("room a 4 w", "person p", "person q", "person r")
        told = self.answer(begin, "leave p", "person p", "share")
        self.assertEqual(told[1], [("q", "a"), ("r", "a"), ("p", "a")])
        told = self.answer(begin, "leave q", "person s", "person q", "share")
        self.assertEqual(told[1], [("p", "a"), ("r", "a"), ("s", "a"), ("q", "a")])

    def test_rooms_and_people_come_in_their_order(self):
        told = self.answer("room z 1 w", "person q", "room b 1 w", "person a", "room m 1 w", "share")
        self.assertEqual([name for name, room in told[1]], ["q", "a"])
        self.assertEqual([name for name, text in told[2]], ["z", "b", "m"])
        # A told worth, purse or pair moves nobody.
        told = self.answer("room z 1 w", "person q", "room b 1 w", "person a", "worth a b 1.00", "purse a 90.00",
                           "near a q", "worth q z 1.00", "within")
        self.assertEqual([name for name, room in told[1]], ["q", "a"])
        self.assertEqual([name for name, text in told[2]], ["z", "b"])

    def test_a_room_and_a_person_with_one_name(self):
        told = self.answer("room a 1 w", "person b", "room b 1 w", "person a", "worth a b 10.00", "worth b a 10.00",
                           "share")
        self.assertEqual(told[1], [("b", "a"), ("a", "b")])
        told = self.answer("room a 1 a", "person a", "worth a a 7.00", "rent 2.00", "share")
        self.assertEqual(told, ("share", [("a", "a")], [("a", "2.00")], [[]]))
        # The room stays when the person of its name leaves.
        told = self.answer("room a 1 a", "person a", "worth a a 7.00", "leave a", "person b", "share")
        self.assertEqual(told, ("share", [("b", "a")], [("a", "0.00")], [[]]))
        self.check(refused("twice"), "room a 1 a", "person a", "leave a", "room a 1 a", "person a")

    def test_names_like_the_words_of_orders(self):
        words = ["share", "even", "within", "close", "room", "person", "worth", "near", "leave", "free"]
        begin = sheet(*[f"room {word} 1 {word}" for word in words], *[f"person {word}" for word in words])
        pairs = sheet(*[f"near {word} share" for word in words[1:]], *[f"purse {word} 9.00" for word in words])
        likes = sheet(*[f"worth {word} {word} 8.00" for word in words])
        self.check([], begin, pairs, likes, *[f"free {word}" for word in words])
        for ask in ASKS:
            told = self.answer(begin, pairs, likes, ask)
            self.assertEqual((told[0], told[1]), (ask, [(word, word) for word in words]))
        self.check([], begin, *[f"leave {word}" for word in words])
        self.check(refused(*["twice"] * 20), begin, begin)
        # Without any bed either.
        self.check([], "person share", "person even", "person close", "near share even", "free even", "leave close")
        self.check(refused(*["name"] * 30), *[f"leave {word}" for word in words], *[f"free {word}" for word in words],
                   *[f"near worth {word}" for word in words if word != "worth"], "near leave worth")


class Refusals(Case):
    def test_name(self):
        for row in ["worth p x 1.00", "worth x a 1.00", "worth x x 1.00", "purse x 1.00", "free x", "near x p",
                    "near p x",
                    "near x y", "leave x", "worth p p 1.00", "worth a a 1.00", "purse a 1.00", "free a", "near p a",
                    "near a p", "leave a"]:
            self.check(refused("name"), "room a 1 w", "person p", row)
            self.check(refused("name"), row)
        self.check([], "room a 1 w", "person p", "person q", "worth p a 1.00", "purse p 1.00", "free p", "near p q",
                   "leave p")

    def test_names_are_held_as_a_whole(self):
        begin = sheet("room ab 1 w", "person pq", "person pr")
        for row in ["purse p 1.00", "purse q 1.00", "purse pqr 1.00", "worth pq a 1.00", "worth pq b 1.00", "free r",
                    "worth pq w 1.00", "near pq p", "near pr p", "leave p"]:
            self.check(refused("name"), begin, row)

    def test_twice(self):
        self.check(refused("twice"), "room a 1 w", "room a 1 w")
        self.check(refused("twice"), "room a 1 w", "room b 1 w", "room a 3 x")
        self.check(refused("twice"), "person p", "person p")
        self.check(refused("twice"), "person p", "person q", "person p")
        self.check([], "room a 1 w", "person a", "room b 1 a", "person w", "person b")
        # Once away, a person's name is free; a room's never is.
        self.check([], "person p", "leave p", "person p")
        self.check(refused("twice"), "person p", "leave p", "person p", "person p")

    def test_a_room_told_twice_stays_as_it_was(self):
        begin = sheet("room a 1 w", "room b 1 x", "person p", "person q")
        told = self.answers(begin, "room a 4 x", "worth p a 9.00", "worth q a 9.00", "near p q", "close", "share")
        self.assertEqual(told[0], ("refused", "twice"))
        # Neither more beds nor another wing.
        self.assertEqual(sorted(lies(told[1]).values()), ["a", "b"])
        self.assertEqual(told[1][4], 0)

    def test_a_person_told_twice_stays_as_they_were(self):
        begin = sheet("room a 2 w", "person p", "person q", "worth p a 9.00", "purse p 5.00", "near p q", "rent 20.00")
        plain = self.answers(begin, "share", "within", "close")
        told = self.answers(begin, "person p", "share", "within", "close")
        self.assertEqual(told, refused("twice") + plain)
        self.assertEqual((plain[1][0], plain[2][4]), ("none", 1))

    def test_full_at_the_eleventh(self):
        rooms = sheet(*[f"room {name} 1 w" for name in TEN])
        people = sheet(*[f"person {name}" for name in TEN])
        self.check([], rooms, people)
        self.check(refused("full"), rooms, "room k 1 w", people)
        self.check(refused("full"), rooms, people, "person k")
        self.check(refused("full", "full"), rooms, "room k 1 w", people, "person k")
        self.check([], rooms, "person k", people.replace("person a\n", ""))
        # What was refused isn't there.
        self.check(refused("full", "name"), rooms, people, "person k", "leave k")
        self.check(refused("full", "name"), rooms, people, "room k 1 w", "worth a k 1.00")
        told = self.answers(rooms, people, "room k 4 w", "person k", liked("a", *TEN), "share")
        self.assertEqual(told[:2], refused("full", "full"))
        self.assertEqual(([name for name, room in told[2][1]], [name for name, cost in told[2][2]]), (TEN, TEN))

    def test_twice_comes_ahead_of_full(self):
        rooms = sheet(*[f"room {name} 1 w" for name in TEN])
        people = sheet(*[f"person {name}" for name in TEN])
        self.check(refused("twice", "full", "twice", "full"), rooms, people, "room j 1 w", "room k 1 w", "person a",
                   "person z")

    def test_a_place_is_free_when_somebody_leaves(self):
        rooms = sheet(*[f"room {name} 2 w" for name in TEN])
        people = sheet(*[f"person {name}" for name in TEN])
        self.check(refused("full"), rooms, people, "person k", "leave c", "person k")
        self.check(refused("full", "full"), rooms, people, "person k", "leave c", "person k", "person c")
        self.check(refused("full", "twice"), rooms, people, "person k", "leave c", "person c", "person c")

    def test_few(self):
        for ask in ASKS:
            self.check(refused("few"), ask)
            self.check(refused("few"), "room a 4 w", "rent 5.00", ask)
            self.check(refused("few"), "person p", ask)
            self.check(refused("few"), "room a 1 w", "person p", "person q", ask)
            self.check(refused("few"), "room a 2 w", "room b 1 w", "person p", "person q", "person r", "person s", ask)
            self.check(refused("few"), "room a 1 w", "person p", "leave p", ask)
            # As many people as beds are no more than there are beds.
            for rows in [["room a 1 w", "person p"], ["room a 2 w", "person p", "person q"],
                         ["room a 1 w", "room b 2 w", "person p", "person q", "person r"]]:
                self.assertEqual(self.answer(*rows, ask)[0], ask)

    def test_few_is_done_once_made_good(self):
        for ask in ASKS:
            told = self.answers(ask, "room a 1 w", ask, "person p", ask, "person q", ask, "leave p", ask, "person p",
                                ask, "room b 1 w", ask)
            self.assertEqual([answer[0] for answer in told],
                             ["refused", "refused", ask, "refused", ask, "refused", ask])
            self.assertEqual(set(told[:2] + [told[3], told[5]]), {("refused", "few")})
            self.assertEqual([[name for name, room in told[place][1]] for place in (2, 4, 6)],
                             [["p"], ["q"], ["q", "p"]])

    def test_many(self):
        # Three people who like ten, seven and three rooms just as much: 210 lists.
        begin = sheet(*[f"room {name} 1 w" for name in TEN], "person p", "person q", "person r",
                      liked("p", *TEN), liked("q", *TEN[:7]), liked("r", *TEN[:3]))
        self.check(refused("many"), begin, "within")
        self.check(refused("many"), begin, "close")
        self.check(refused("many", "many"), begin, "near p q", "purse p 1.00", "within", "close")
        # share and even go through no lists.
        self.assertEqual([answer[0] for answer in self.answers(begin, "share", "even")], ["share", "even"])
        # 200 aren't too many.
        fewer = ["worth q h 10.00", "worth q i 10.00", "worth q j 10.00", "worth r c 0.00"]
        self.assertEqual([answer[0] for answer in self.answers(begin, *fewer, "within", "close")], ["within", "close"])
        told = self.answers(begin, "within", "close", *fewer, "within", "close", "worth r c 10.00", "within", "close")
        self.assertEqual([answer[:2] if answer[0] == "refused" else answer[0] for answer in told],
                         refused("many", "many") + ["within", "close"] + refused("many", "many"))

    def test_what_is_refused_is_done_once_made_good(self):
        self.check(refused("name"), "person p", "near p q", "person q", "near p q")
        told = self.answers("room a 2 w", "person p", "near p q", "person q", "close", "near q p", "close")
        self.assertEqual((told[0], told[1][4], told[2][4]), (("refused", "name"), 0, 1))
        told = self.answers("room a 1 w", "room b 1 w", "person p", "worth p c 5.00", "room c 1 w", "share",
                            "worth p c 5.00", "share")
        self.assertEqual(told[0], ("refused", "name"))
        self.assertEqual(told[1][2], [("a", "0.00"), ("b", "0.00"), ("c", "0.00")])
        self.assertEqual(told[2][1], [("p", "c")])
        told = self.answers("room a 1 w", "rent 9.00", "purse p 1.00", "person p", "within", "purse p 1.00", "within")
        self.assertEqual([answer[0] for answer in told], ["refused", "within", "none"])
        told = self.answers("room a 1 w", "rent 9.00", "person p", "purse p 1.00", "free q", "within", "free p",
                            "within")
        self.assertEqual([answer[0] for answer in told], ["refused", "none", "within"])

    def test_what_is_refused_changes_nothing(self):
        asks = ["share", "even", "purse ann 405.00", "near cid ann", "within", "close"]
        plain = self.answers(FLAT, *asks)
        for row in ["room big 4 west", "room small 4 east", "person ann", "worth ann attic 1.00", "worth dan big 1.00",
                    "purse dan 1.00", "free dan", "near ann dan", "near dan cid", "leave dan", "leave big"]:
            for place in range(len(asks) + 1):
                told = self.answers(FLAT, *asks[:place], row, *asks[place:])
                self.assertEqual([answer for answer in told if answer[0] != "refused"], plain)
                self.assertEqual(len(told), len(plain) + 1)

    def test_refusals_are_told_each_time(self):
        self.check(refused("few", "few", "name", "name", "few"), "share", "share", "leave p", "leave p", "even")


# Three rooms of which each person likes two, in a round: just two ways are of greatest worth, FIRST and OTHER.
ROUND = sheet("room a 1 w", "room b 1 w", "room c 1 w", "person p", "person q", "person r",
              liked("p", "a", "b"), liked("q", "b", "c"), liked("r", "c", "a"))
FIRST = [("p", "a"), ("q", "b"), ("r", "c")]
OTHER = [("p", "b"), ("q", "c"), ("r", "a")]
# What makes either way the only one, and what takes that back.
TO_FIRST = "worth p a 11.00"
TO_OTHER = "worth p a 9.00"
BACK = "worth p a 10.00"


class Given(Case):
    def test_who_was_given_a_room_keeps_it(self):
        for ask in ASKS:
            for again in ["share", "even"]:
                told = self.answers(ROUND, TO_FIRST, ask, BACK, again, again)
                self.assertEqual([answer[1] for answer in told], [FIRST] * 3, (ask, again))
                told = self.answers(ROUND, TO_OTHER, ask, BACK, again, again)
                self.assertEqual([answer[1] for answer in told], [OTHER] * 3, (ask, again))

    def test_who_was_given_another_room_keeps_that(self):
        for ask in ASKS:
            told = self.answers(ROUND, TO_FIRST, "share", TO_OTHER, ask, BACK, "share", "even")
            self.assertEqual([answer[1] for answer in told], [FIRST] + [OTHER] * 3)
            told = self.answers(ROUND, TO_OTHER, "share", TO_FIRST, ask, BACK, "even", "share")
            self.assertEqual([answer[1] for answer in told], [OTHER] + [FIRST] * 3)

    def test_nobody_stays_where_it_costs_worth(self):
        told = self.answers(ROUND, TO_FIRST, "share", "worth p a 9.99", "share")
        self.assertEqual([answer[1] for answer in told], [FIRST, OTHER])

    def test_within_and_close_go_by_their_own_way(self):
        # close tells the first way of those that are near most, whoever lay where.
        told = self.answers(ROUND, TO_OTHER, "share", BACK, "close", "share")
        self.assertEqual([answer[1] for answer in told], [OTHER, FIRST, FIRST])
        told = self.answers(ROUND, TO_OTHER, "share", BACK, "within", "share")
        self.assertEqual([answer[1] for answer in told], [OTHER, FIRST, FIRST])

    def test_none_gives_nobody_a_room(self):
        rows = [ROUND, "rent 30.00"]
        told = self.answers(*rows, TO_OTHER, "share", BACK, "purse p 0.00", "purse q 0.00", "purse r 0.00", "within",
                            "share")
        self.assertEqual([answer[0] for answer in told], ["share", "none", "share"])
        self.assertEqual((told[0][1], told[2][1]), (OTHER, OTHER))
        # none goes through both ways, the first one first.
        self.assertEqual([rooms for rooms, paper in told[1][1]], [["a", "b", "c"], ["b", "c", "a"]])
        told = self.answers(*rows, TO_FIRST, "share", "purse p 0.00", "purse q 0.00", TO_OTHER, "purse r 0.00",
                            "within", BACK, "share")
        self.assertEqual([answer[0] for answer in told], ["share", "none", "share"])
        self.assertEqual((told[0][1], told[2][1]), (FIRST, FIRST))

    def test_what_is_refused_gives_nobody_a_room(self):
        # Four more rooms and two more people who like seven each make 8 * 49 lists.
        more = sheet(*[f"room {name} 1 w" for name in "defg"], "person s", "person t")
        likes = sheet(liked("s", *"abcdefg"), liked("t", *"abcdefg"))
        for way, turn in [(FIRST, TO_FIRST), (OTHER, TO_OTHER)]:
            for ask in ["within", "close"]:
                told = self.answers(ROUND, turn, "share", BACK, more, likes, ask, "share")
                self.assertEqual(told[1], ("refused", "many"))
                self.assertEqual(told[2][1][:3], way)

    def test_who_came_back_is_given_nothing_yet(self):
        # q and r were given rooms by FIRST, p one by OTHER; if q and r had theirs still, two would stay by FIRST.
        rows = ["leave q", "leave r", "worth p b 12.00", "share", "worth p b 10.00", "person q", "person r",
                liked("q", "b", "c"), liked("r", "c", "a"), "share"]
        told = self.answers(ROUND, TO_FIRST, "share", BACK, *rows)
        self.assertEqual([answer[1] for answer in told], [FIRST, [("p", "b")], OTHER])

    def test_rooms_stay_with_their_people_when_another_leaves(self):
        # With p away, q and r are the first and the second; s comes behind and likes what p liked.
        rows = ["leave p", "person s", liked("s", "a", "b"), "share"]
        told = self.answers(ROUND, TO_FIRST, "share", *rows)
        self.assertEqual(told[1][1], [("q", "b"), ("r", "c"), ("s", "a")])
        told = self.answers(ROUND, TO_OTHER, "share", *rows)
        self.assertEqual(told[1][1], [("q", "c"), ("r", "a"), ("s", "b")])

    def test_rooms_that_come_later_move_nobody(self):
        for way, turn in [(FIRST, TO_FIRST), (OTHER, TO_OTHER)]:
            told = self.answers(ROUND, turn, "share", BACK, "room d 1 w", "room e 4 w", "person s", "share")
            self.assertEqual(told[1][1][:3], way)
            self.assertIn(told[1][1][3], [("s", "d"), ("s", "e")])


class Own(Case):
    def test_no_two_lists_are_one_and_the_same(self):
        asks = ["share", "share", "even", "even", "close", "close", "within", "within", "purse cid 0.00", "within",
                "within",
                "leave dan", "leave dan"]
        told = self.answers(FLAT, *asks)
        self.assertEqual([answer[0] for answer in told].count("none"), 2)
        self.assertTrue(all_unlike(told))
        again = self.answers(FLAT, *asks)
        self.assertEqual(again, told)
        self.assertTrue(all_unlike([told, again]))
        told = self.answers(ROUND, "rent 30.00", "purse p 0.00", "purse q 0.00", "within", "within", "share")
        self.assertEqual(len(told[0][1]), 2)
        self.assertTrue(all_unlike(told))
        # Without any pair, person or room the lists are unlike, too.
        self.assertIsNot(run(""), run(""))

    def test_what_is_told_is_the_askers_own(self):
        text = sheet(FLAT, "share", "even", "within", "close", "purse cid 0.00", "within")
        told = run(text)
        kept = repr(told)
        for found in lists_in(told):
            found.clear()
        self.assertEqual(repr(run(text)), kept)


if __name__ == "__main__":
    unittest.main()
