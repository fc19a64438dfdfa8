"""Point 27: sheets that are read to orders, and rows that are refused with their place; points 1 and 3 for them."""

import string
import unittest

from houses import Numbers
from rentshare.errors import NoLine, RentError
from rentshare.sheet import read_sheet

WHOLE = """room big 2 east
person ann
rent 900.00
worth ann big -12.50
purse ann 400.00
free ann
near ann bob
leave ann
share
even
within
close"""

ORDERS = [
    ("room", "big", 2, "east"),
    ("person", "ann"),
    ("rent", 90000),
    ("worth", "ann", "big", -1250),
    ("purse", "ann", 40000),
    ("free", "ann"),
    ("near", "ann", "bob"),
    ("leave", "ann"),
    ("share",),
    ("even",),
    ("within",),
    ("close",),
]

# A row of each order with one name where a name may stand.
WITH_NAME = ["room {} 1 a", "room a 1 {}", "person {}", "worth {} a 0.00", "worth a {} 0.00", "purse {} 0.00",
             "free {}",
             "near {} ab", "near ab {}", "leave {}"]

WITH_AMOUNT = ["rent {}", "worth a a {}", "purse a {}"]


class Case(unittest.TestCase):
    def reads(self, text, orders):
        told = read_sheet(text)
        self.assertIs(type(told), list)
        self.assertEqual(told, orders, text)
        for order, due in zip(told, orders):
            self.assertIs(type(order), tuple)
            self.assertEqual([type(word) for word in order], [type(word) for word in due])

    def refuses(self, text, line):
        with self.assertRaises(NoLine, msg=text) as caught:
            read_sheet(text)
        self.assertIs(type(caught.exception.line), int)
        self.assertEqual(caught.exception.line, line, text)

    def refuses_row(self, row):
        """Alone, and between good ones and empty ones."""
        self.refuses(row, 1)
        self.refuses(f"share\n\n{row}\nshare", 3)


class Reads(Case):
    def test_each_of_the_twelve_orders(self):
        rows = WHOLE.split("\n")
        self.assertEqual(len(rows), 12)
        for row, order in zip(rows, ORDERS):
            self.reads(row, [order])

    def test_the_orders_of_a_whole_sheet(self):
        self.reads(WHOLE, ORDERS)
        turned = "\n".join(reversed(WHOLE.split("\n")))
        self.reads(turned, ORDERS[::-1])
        self.reads("share\nshare\nshare", [("share",)] * 3)

    def test_an_empty_sheet(self):
        self.reads("", [])
        self.reads("\n", [])
        self.reads("\n\n\n", [])

    def test_empty_rows(self):
        self.reads("\nshare", [("share",)])
        self.reads("share\n", [("share",)])
        self.reads("\n\nshare\n\n\neven\n\n", [("share",), ("even",)])
        self.reads("\n" + WHOLE.replace("\n", "\n\n\n") + "\n", ORDERS)

    def test_names_of_one_and_of_eight_signs(self):
        for name in ["a", "z", "m", "abcdefgh", "zzzzzzzz", "az", "qwertyu"]:
            self.reads(f"person {name}", [("person", name)])
            self.reads(f"free {name}", [("free", name)])
            self.reads(f"leave {name}", [("leave", name)])
            self.reads(f"room {name} 3 {name}", [("room", name, 3, name)])
            self.reads(f"worth {name} {name} 0.01", [("worth", name, name, 1)])
            self.reads(f"purse {name} 0.01", [("purse", name, 1)])
            self.reads(f"near {name} {name[:7]}x", [("near", name, name[:7] + "x")])
            self.reads(f"near {name[:7]}x {name}", [("near", name[:7] + "x", name)])

    def test_each_letter_is_a_name(self):
        for letter in string.ascii_lowercase:
            self.reads(f"person {letter}", [("person", letter)])

    def test_names_like_the_words_of_orders(self):
        for word in ["room", "person", "rent", "worth", "purse", "free", "near", "leave", "share", "even", "within"]:
            self.reads(f"room {word} 1 {word}", [("room", word, 1, word)])
            self.reads(f"person {word}", [("person", word)])
            self.reads(f"near {word} close", [("near", word, "close")])
            self.reads(f"worth {word} {word} 1.00", [("worth", word, word, 100)])

    def test_names_that_are_almost_the_same(self):
        self.reads("near a aa", [("near", "a", "aa")])
        self.reads("near ab ba", [("near", "ab", "ba")])
        self.reads("near abcdefgh abcdefgi", [("near", "abcdefgh", "abcdefgi")])

    def test_beds_from_one_to_four(self):
        for beds in [1, 2, 3, 4]:
            self.reads(f"room a {beds} w", [("room", "a", beds, "w")])

    def test_amounts(self):
        for text, number in [("0.00", 0), ("0.01", 1), ("-0.01", -1), ("0.10", 10), ("12.50", 1250), ("-12.50", -1250),
                             ("1.00", 100), ("10.00", 1000), ("-900.09", -90009)]:
            self.reads(f"rent {text}", [("rent", number)])
            self.reads(f"worth a b {text}", [("worth", "a", "b", number)])
            self.reads(f"purse a {text}", [("purse", "a", number)])

    def test_amounts_of_thirty_eight_figures(self):
        for text, number in [("9" * 38 + ".99", 10 ** 40 - 1), ("-" + "9" * 38 + ".99", 1 - 10 ** 40),
                             ("1" + "0" * 37 + ".00", 10 ** 39), ("-1" + "0" * 37 + ".05", -10 ** 39 - 5)]:
            for row in WITH_AMOUNT:
                words = row.split(" ")[:-1]
                self.reads(row.format(text), [tuple(words + [number])])

    def test_the_order_is_read_alone_not_done(self):
        # Names that nobody has, and more rooms than there may be, are read all the same.
        self.reads("worth nobody nowhere 1.00\nleave nobody",
                   [("worth", "nobody", "nowhere", 100), ("leave", "nobody")])
        self.reads("room a 1 w\n" * 12, [("room", "a", 1, "w")] * 12)

    def test_a_long_sheet(self):
        self.reads("\n".join(["share"] * 200), [("share",)] * 200)
        row = "worth abcdefgh abcdefgh -" + "9" * 38 + ".99"
        self.reads("\n".join([row] * 200), [("worth", "abcdefgh", "abcdefgh", 1 - 10 ** 40)] * 200)
        # Somewhat beyond the bounds nothing is refused for it.
        self.reads("\n".join(["share"] * 210), [("share",)] * 210)
        self.refuses("share\n" * 199 + "shar", 200)

    def test_made_up_sheets(self):
        numbers = Numbers(120)
        rows = WHOLE.split("\n")
        for turn in range(60):
            text = []
            orders = []
            for place in range(numbers.between(1, 40)):
                pick = numbers.below(15)
                if pick < 12:
                    text.append(rows[pick])
                    orders.append(ORDERS[pick])
                else:
                    text.append("")
            self.reads("\n".join(text), orders)
            # A bad row at each place in turn is told with its place.
            place = numbers.below(len(text) + 1)
            text.insert(place, "shares")
            self.refuses("\n".join(text), place + 1)


class Refuses(Case):
    def test_unknown_words(self):
        for row in ["shares", "shar", "Share", "SHARE", "hello", "x", "share.", "rooms a 1 w", "ro a 1 w", "persons a",
                    "Person a", "none", "refused", "#", "0.00", "1", "# share", "name", "beds 1", "amount 1.00", "-",
                    "shareeven", "get a", "wort a b 1.00"]:
            self.refuses_row(row)

    def test_two_blanks(self):
        for row in WHOLE.split("\n"):
            words = row.split(" ")
            for place in range(1, len(words)):
                self.refuses_row(" ".join(words[:place]) + "  " + " ".join(words[place:]))

    def test_a_blank_at_the_ends(self):
        for row in WHOLE.split("\n"):
            for bad in [f" {row}", f"{row} ", f" {row} ", f"  {row}", f"{row}  "]:
                self.refuses_row(bad)

    def test_blanks_alone(self):
        # Such a row has a sign, so it isn't empty.
        for row in [" ", "  ", "     "]:
            self.refuses_row(row)

    def test_no_blank_between(self):
        for row in WHOLE.split("\n"):
            if " " in row:
                self.refuses_row(row.replace(" ", ""))
                self.refuses_row(row.replace(" ", "-"))
                self.refuses_row(row.replace(" ", "\t"))

    def test_a_word_too_many(self):
        for row in WHOLE.split("\n"):
            for word in ["a", "share", "1", "1.00", "-"]:
                self.refuses_row(f"{row} {word}")
        for word in ["share", "even", "within", "close"]:
            self.refuses_row(f"{word} ann")
            self.refuses_row(f"{word} {word}")

    def test_a_word_too_few(self):
        for row in WHOLE.split("\n"):
            words = row.split(" ")
            for count in range(1, len(words)):
                self.refuses_row(" ".join(words[:count]))

    def test_words_in_another_order(self):
        for row in ["room 1 a w", "room a w 1", "1 room a w", "worth 1.00 a b", "worth a 1.00 b", "purse 1.00 a",
                    "ann person", "1.00 rent", "ann leave"]:
            self.refuses_row(row)

    def test_a_name_of_nine_signs(self):
        for row in WITH_NAME:
            self.refuses_row(row.format("abcdefghi"))
            self.refuses_row(row.format("a" * 9))
            self.refuses_row(row.format("a" * 500))

    def test_a_name_of_none(self):
        for row in WITH_NAME:
            self.refuses_row(row.format(""))

    def test_a_name_with_a_strange_sign(self):
        strange = [sign for sign in string.printable if sign not in string.ascii_lowercase + " \n"]
        self.assertGreater(len(strange), 60)
        for row in WITH_NAME:
            for sign in strange:
                self.refuses_row(row.format(sign))
            for name in ["ann1", "1ann", "an.n", "an-n", "-ann", "ann_", "an'n", "ann~", "`ann", "{ann", "@ann",
                         "ann["]:
                self.refuses_row(row.format(name))

    def test_a_name_with_a_great_letter(self):
        for row in WITH_NAME:
            for name in ["A", "Z", "Ann", "anN", "aNn", "ANN", "abcdefgH"]:
                self.refuses_row(row.format(name))

    def test_beds(self):
        for beds in ["0", "5", "6", "9", "10", "01", "11", "12", "44", "-1", "+1", "1.00", "1.", "one", "", "a", "1a",
                     "a1", "04", "1234", "2 ", " 2", "1-4", "~"]:
            self.refuses_row(f"room a {beds} w")

    def test_bad_amounts(self):
        for amount in ["", "0", "1", "12", "12.5", "12.500", ".50", "12.", "-", "-0.00", "00.00", "01.00", "-01.00",
                       "+1.00",
                       "1,00", "1.0a", "a", "1.00.00", "--1.00", "1.-1", "1e5", "0x1.00", "1_0.00", "1.00-", "free",
                       "0" * 38 + ".00", "1" + "0" * 38 + ".00", "9" * 39 + ".99", "-" + "9" * 39 + ".99", "-.50",
                       "1" * 900 + ".00", "1" * 6000 + ".00", "12.50+1/3", "1/2", " 1.00", "1.00 ", "1.0 0"]:
            for row in WITH_AMOUNT:
                self.refuses_row(row.format(amount))

    def test_near_with_one_name_twice(self):
        for name in ["a", "ann", "abcdefgh", "near"]:
            self.refuses_row(f"near {name} {name}")
        # One name twice is no fault where a person and a room are named.
        self.reads("worth a a 0.00", [("worth", "a", "a", 0)])
        self.reads("room a 1 a", [("room", "a", 1, "a")])

    def test_other_signs_end_no_row(self):
        for sign in ["\r", "\v", "\f", "\x1c", "\x1d", "\x1e", "\x85", "\u2028", "\u2029", "\t"]:
            self.refuses_row(f"share{sign}even")
            self.refuses_row(f"share{sign}")
            self.refuses_row(sign)
        self.refuses("share\r\neven\r\n", 1)

    def test_figures_and_letters_of_other_scripts(self):
        for row in ["room a \u0661 w", "room a \u00b2 w", "room a \uff11 w", "rent \u0661.00", "rent 1.0\u0661",
                    "person \u00e9", "person \u00df", "person ann\u0301", "share\u00a0"]:
            self.refuses_row(row)

    def test_the_place_of_the_row(self):
        self.refuses("bad", 1)
        self.refuses("\nbad", 2)
        self.refuses("\n\n\nbad\n\n", 4)
        self.refuses("share\nbad", 2)
        self.refuses("share\n\neven\n\n\nbad\nshare", 6)
        self.refuses("share\n ", 2)
        self.refuses(WHOLE + "\nbad", 13)
        self.refuses("\n" * 150 + "bad", 151)

    def test_the_first_of_two_bad_rows(self):
        self.refuses("bad\nworse", 1)
        self.refuses("share\nroom a 0 w\nrent 1\nshare", 2)
        self.refuses("\nperson A\n\nnear a a\nbad", 2)
        self.refuses("share\n\nnear a a\nperson A\n", 3)
        self.refuses("rent 1.00\npurse a 1\nbad\n" + WHOLE, 2)

    def test_the_refusal_is_a_rent_error(self):
        with self.assertRaises(RentError):
            read_sheet("bad")
        # Nothing else comes out, from a bad amount either.
        with self.assertRaises(NoLine):
            read_sheet("rent 1")


class Own(unittest.TestCase):
    def test_the_list_told_is_the_askers_own(self):
        first = read_sheet(WHOLE)
        again = read_sheet(WHOLE)
        self.assertIsNot(first, again)
        first.clear()
        self.assertEqual((again, read_sheet(WHOLE)), (ORDERS, ORDERS))
        self.assertIsNot(read_sheet(""), read_sheet(""))


if __name__ == "__main__":
    unittest.main()
