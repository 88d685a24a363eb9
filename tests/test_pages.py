import random
import re
import string
import unittest

from bad import RefusalCase
from lifehold.errors import BadText, Full, GivenUp, NoPresentment, Nothing
from lifehold.manor import Manor
from lifehold.pages import page, read
from manors import all_of, manor_of
from plain import Chance, Plain, Refused, due

SIGNS = [" ", "\n", "-", "+", "0", "1", "9", "a", "z", "A", "~", "!", "_", ".", "|"]
SAY = re.compile(
    "say (?P<number>[1-9][0-9]{0,5}) "
    "(?:(?P<word>on|alive) (?P<life>[a-z]{1,8}) (?P<day>[0-9]{4})"
    "|between (?P<who>[a-z]{1,8}) (?P<first>[0-9]{4}) (?P<last>[0-9]{4})"
    "|(?P<two>after|within) (?P<one>[a-z]{1,8}) (?P<other>[a-z]{1,8}) (?P<days>0|[1-9][0-9]{0,3}))"
)
HOLD = re.compile("hold ([a-z]{1,8}) ([0-9]{4}) ([0-9]{4}|10000|-) ([a-z]{1,8}(?: [a-z]{1,8}){0,3})")


class Reader:
    """Point [18] gone through row by row, by patterns and a plain manor."""

    def __init__(self):
        self.plain = Plain()
        self.next = None
        # How far the page has come: 1 lives, 2 holdings, 3 presentments.
        self.stage = 1

    def stage_of(self, stage):
        due(("place", stage < self.stage))
        self.stage = stage

    def take(self, at, row):
        found = re.fullmatch("manor ([1-9][0-9]{0,5})", row)
        due(("place", (at == 0) != (found is not None)))
        if found:
            self.next = int(found[1])
            return
        if found := re.fullmatch("life ([a-z]{1,8})", row):
            self.stage_of(1)
            self.plain.life(found[1])
        elif found := HOLD.fullmatch(row):
            self.stage_of(2)
            self.take_hold(*found.groups())
        elif found := SAY.fullmatch(row):
            self.stage_of(3)
            self.take_say(found.groupdict())
        else:
            due(("form", True))

    def take_hold(self, name, start, end, lives):
        due(("place", any(name <= each for each in self.plain.holdings)))
        self.plain.let(name, lives.split(" "), int(start))
        if end != "-":
            due(("end", int(end) <= int(start)))
            self.plain.holdings[name][2] = int(end)

    def take_say(self, told):
        number = int(told["number"])
        due(("number", number >= self.next or any(number <= each for each in self.plain.said)))
        if told["word"]:
            row = (told["word"], told["life"], int(told["day"]))
        elif told["who"]:
            row = ("between", told["who"], int(told["first"]), int(told["last"]))
        else:
            row = (told["two"], told["one"], told["other"], int(told["days"]))
        self.plain.next = number
        self.plain.present(row)


def first_wrong(text):
    """The number of the first row that is wrong, None where none is."""
    reader = Reader()
    for at, row in enumerate(text.split("\n")):
        try:
            reader.take(at, row)
        except Refused:
            return at
    return None


def manors(seed, count, steps=70):
    """Some manors behind deeds by chance, with ends of 10000 among them."""
    chance = random.Random(seed)
    for _ in range(count):
        plain, manor = Plain(), Manor()
        maker = Chance(chance, chance.choice([0, 70, 9970]), 20)
        for _ in range(steps):
            deed = maker.deed(plain)
            try:
                plain.do(deed)
            except Refused:
                continue
            manor.do(deed)
        text = page(manor)
        if chance.random() < 0.5:
            yield read(re.sub("(hold [a-z]+ [0-9]+) -", r"\1 10000", text, count=1))
        else:
            yield manor


def full_manor():
    names = ["abcdefgh", "b", "ccc", "dddddddd", "eeeeeeee", "ffffffff", "gggggggg", "hhhhhhhh", "iiiiiiii", "z"]
    manor = manor_of(" ".join(names))
    for at, name in enumerate(["pppppppp", "a", "qqqqqqqq", "rrrrrrrr", "ssssssss", "tttttttt", "b", "vvvvvvvv"]):
        manor.let(name, names[at:at + 4][-4:], 9000 + at)
    manor.give_up("a", 9999)
    for at in range(30):
        manor.present(("between", names[at % 10], at, 9000 + at))
    return manor


class TestWritten(unittest.TestCase):
    def test_by_hand(self):
        manor = manor_of("anne bet", [
            ("let", "mill", ("bet", "anne"), 12), ("let", "acre", ("anne",), 0), ("let", "b", ("bet",), 9998),
            ("give_up", "acre", 7), ("give_up", "b", 9999), ("present", ("on", "anne", 3)),
            ("present", ("between", "bet", 0, 9999)), ("present", ("alive", "bet", 41)),
            ("present", ("after", "bet", "anne", 0)), ("present", ("within", "bet", "anne", 9996)),
            ("present", ("after", "bet", "anne", 37)), ("strike", 3),
        ])
        self.assertEqual(page(manor), "\n".join([
            "manor 7", "life anne", "life bet", "hold acre 0000 0007 anne", "hold b 9998 9999 bet",
            "hold mill 0012 - bet anne", "say 1 on anne 0003", "say 2 between bet 0000 9999",
            "say 4 after bet anne 0", "say 5 within bet anne 9996", "say 6 after bet anne 37",
        ]))

    def test_an_empty_one(self):
        self.assertEqual(page(Manor()), "manor 1")
        self.assertEqual(read("manor 1"), Manor())

    def test_asking_changes_nothing(self):
        manor = manor_of("anne", [("life", "bet")])
        manor.undo()
        page(manor)
        self.assertEqual(manor.redo(), ("life", "bet"))


class TestRead(unittest.TestCase):
    def check_read(self, manor):
        ahead = all_of(manor)
        text = page(manor)
        self.assertIsNone(first_wrong(text), text)
        again = read(text)
        self.assertEqual(again, manor)
        self.assertEqual(page(again), text)
        self.assertEqual(again.past(), [])
        with self.assertRaises(Nothing):
            again.undo()
        with self.assertRaises(Nothing):
            again.redo()
        self.assertEqual(all_of(manor), ahead)
        return again

    def test_behind_any_deeds(self):
        for manor in manors(1001, 60):
            self.check_read(manor)

    def test_a_full_manor(self):
        manor = full_manor()
        self.assertLessEqual(len(page(manor)), 4000)
        again = self.check_read(manor)
        with self.assertRaises(Full):
            again.present(("alive", "z", 3))
        with self.assertRaises(Full):
            again.life("x")
        with self.assertRaises(Full):
            again.let("x", ["z"], 0)
        again.strike(4)
        self.assertEqual(again.present(("alive", "z", 3)), 31)

    def test_ends(self):
        manor = read("manor 1\nlife anne\nhold a 0000 10000 anne\nhold b 0000 - anne\nhold c 9999 10000 anne")
        self.assertEqual([manor.term(name) for name in "abc"], [(0, 10000), (0, None), (9999, 10000)])
        with self.assertRaises(GivenUp):
            manor.give_up("a", 5)
        with self.assertRaises(GivenUp):
            manor.put_in("a", "anne")
        manor.give_up("b", 9999)
        self.check_read(manor)

    def test_numbers(self):
        manor = read("manor 999999\nlife anne\nsay 7 alive anne 0003\nsay 999998 on anne 0040")
        self.assertEqual((manor.coming(), len(manor)), (999999, 2))
        self.assertEqual(manor.presentments(), [(7, ("alive", "anne", 3)), (999998, ("on", "anne", 40))])
        with self.assertRaises(NoPresentment):
            manor.strike(1)
        self.assertEqual(manor.present(("on", "anne", 40)), 999999)
        self.assertEqual(manor.coming(), 1000000)

    def test_it_goes_on_from_there(self):
        manor = read("manor 4\nlife anne\nlife bet\nhold mill 0005 - anne\nsay 2 alive anne 0010")
        manor.put_in("mill", "bet")
        self.assertEqual(manor.present(("on", "anne", 20)), 4)
        self.assertEqual(manor.undo(), ("present", ("on", "anne", 20)))
        self.assertEqual(manor.undo(), ("put_in", "mill", "bet"))
        self.assertEqual(page(manor), "manor 4\nlife anne\nlife bet\nhold mill 0005 - anne\nsay 2 alive anne 0010")


class TestSpoilt(RefusalCase):
    def check(self, text):
        """Hold read against the plain reader; whether the text is a page."""
        wrong = first_wrong(text)
        if wrong is None:
            self.assertEqual(page(read(text)), text)
            return True
        with self.assertRaises(BadText, msg=repr(text)) as caught:
            read(text)
        self.assertEqual(caught.exception.at, wrong, repr(text))
        self.assertIs(caught.exception.__class__, BadText)
        return False

    def bad(self, text, at):
        with self.assertRaises(BadText, msg=repr(text)) as caught:
            read(text)
        self.assertEqual(caught.exception.at, at, repr(text))
        self.assertEqual(first_wrong(text), at)

    def spoilt_words(self, chance, text):
        rows = [row.split(" ") for row in text.split("\n")]
        at = chance.randrange(len(rows))
        words = rows[at]
        place = chance.randrange(len(words))
        others = [word for row in rows for word in row] + ["", "who", "0", "00012", "-1", "+1", "10000", "99999", "-"]
        lot = chance.randrange(4)
        if lot == 0:
            del words[place]
        elif lot == 1:
            words.insert(place, chance.choice(others))
        elif lot == 2:
            words[place] = chance.choice(others)
        else:
            other = chance.randrange(len(words))
            words[place], words[other] = words[other], words[place]
        return "\n".join(" ".join(row) for row in rows)

    def spoilt_rows(self, chance, text):
        rows = text.split("\n")
        at, other = chance.randrange(len(rows)), chance.randrange(len(rows))
        lot = chance.randrange(5)
        if lot == 0:
            del rows[at]
        elif lot == 1:
            rows.insert(at, rows[other])
        elif lot == 2:
            rows[at], rows[other] = rows[other], rows[at]
        elif lot == 3:
            rows.insert(chance.choice([at, len(rows)]), chance.choice(["", " ", "manor 1", "life new", "who"]))
        else:
            rows[at] = rows[other]
        return "\n".join(rows)

    def spoilt_signs(self, chance, text):
        at = chance.randrange(len(text) + 1)
        sign = chance.choice(SIGNS)
        lot = chance.randrange(3)
        if lot == 0:
            return text[:at] + text[at + 1:]
        if lot == 1:
            return text[:at] + sign + text[at:]
        return text[:at] + sign + text[at + 1:]

    def spoilt_numbers(self, chance, text):
        """Another number in the place of one, a needless nought, or a sign ahead of it."""
        found = chance.choice(list(re.finditer("[0-9]+", text)))
        number = found[0]
        told = chance.choice([
            "0" + number, "00" + number, "-" + number, "+" + number, number[1:], number.lstrip("0"), "0", "0000",
            str(int(number) + 1), str(max(0, int(number) - 1)).zfill(len(number)), "9999", "10000", "1000000",
            number + "0",
            str(int(number) + 1).zfill(len(number)), number[:1] + "_" + number[1:], "9" * 30, "9" * 4000,
        ])
        return text[:found.start()] + told + text[found.end():]

    def test_by_chance(self):
        chance = random.Random(1002)
        ways = [self.spoilt_words, self.spoilt_rows, self.spoilt_signs, self.spoilt_numbers]
        pages, others = 0, 0
        for manor in manors(1003, 40):
            text = page(manor)
            for way in ways * 25:
                spoilt = way(chance, text)
                if chance.random() < 0.2:
                    spoilt = chance.choice(ways[:3])(chance, spoilt)
                if self.check(spoilt):
                    pages += 1
                else:
                    others += 1
        self.assertGreater(pages, 200)
        self.assertGreater(others, 2000)

    def test_a_full_one_by_chance(self):
        chance = random.Random(1004)
        text = page(full_manor())
        for way in [self.spoilt_words, self.spoilt_rows, self.spoilt_signs, self.spoilt_numbers] * 40:
            self.check(way(chance, text))

    def test_each_sign_of_a_page(self):
        text = "manor 3\nlife a\nlife b\nhold m 0005 0009 a b\nsay 1 on a 0007\nsay 2 within b a 10"
        self.assertTrue(self.check(text))
        for at in range(len(text) + 1):
            self.check(text[:at] + text[at + 1:])
            for sign in SIGNS:
                self.check(text[:at] + sign + text[at:])
                self.check(text[:at] + sign + text[at + 1:])

    def test_no_page_at_all(self):
        for text in (
            "", " ", "\n", "manor", "manor ", "Manor 1", "life anne", "manor 1 1", " manor 1", "manor 1 ", "who", "-",
        ):
            self.bad(text, 0)
        for row in ("", "\n", "manor 1", " life a", "who", "life"):
            self.bad("manor 1\n" + row, 1)
        self.bad("\nmanor 1", 0)

    def test_the_number_that_comes_next(self):
        for number in ("0", "00", "01", "-1", "+1", "1000000", "0000001", "1.", "a", "", "1_0", "9" * 30, "9" * 3900):
            self.bad("manor " + number, 0)
        for number in ("1", "9", "10", "999999"):
            self.assertEqual(read("manor " + number).coming(), int(number))

    def test_names(self):
        for name in ("", "A", "a1", "abcdefghi", "a-b", "a\t", "a b"):
            self.bad(f"manor 1\nlife {name}", 1)
            self.bad(f"manor 1\nlife ok\nhold {name} 0005 - ok", 2)
        for name in list(string.ascii_lowercase) + ["abcdefgh"]:
            read(f"manor 1\nlife {name}\nhold {name} 0005 - {name}")

    def test_lives(self):
        self.bad("manor 1\nlife a\nlife b\nlife a", 3)
        self.bad("manor 1\nlife a\nhold m 0005 - a\nlife b", 3)
        self.bad("manor 2\nlife a\nsay 1 on a 0005\nlife b", 3)
        eleven = ["manor 1"] + ["life " + letter for letter in "abcdefghijk"]
        self.bad("\n".join(eleven), 11)
        read("\n".join(eleven[:-1]))

    def test_holdings(self):
        head = "manor 2\nlife a\nlife b\nlife c\nlife d\nlife e\n"
        for row in (
            "hold m 0005 0005 a", "hold m 0005 0004 a", "hold m 0005 10001 a", "hold m 0005 00010 a",
            "hold m 10000 - a", "hold m 5 - a", "hold m 0005 9 a", "hold m 0005 -", "hold m 0005 - ",
            "hold m 0005 - a a", "hold m 0005 - f", "hold m 0005 - a b c d e", "hold m 0005 - a  b", "hold m 0005 -- a",
            "hold m 0005 a", "hold m", "hold", "hold m - 0005 a", "hold m 0005 010000 a", "hold m 0005 - a b a",
            "hold m -005 - a", "hold m 0005 +009 a", "hold m 0005 None a", "hold m 00005 - a", "hold m 0005 20000 a",
        ):
            self.bad(head + row, 6)
        for row in ("hold m 0000 - a b c d", "hold m 9999 10000 e", "hold a 0000 0001 b", "hold m 0005 9999 d c"):
            self.assertTrue(self.check(head + row))
        self.bad(head + "hold m 0005 - a\nhold m 0005 - a", 7)
        self.bad(head + "hold m 0005 - a\nhold a 0005 - a", 7)
        self.bad(head + "hold aa 0005 - a\nhold a 0005 - a", 7)
        self.bad(head + "say 1 on a 0005\nhold m 0005 - a", 7)
        nine = [f"hold {letter} 0005 - a" for letter in "abcdefghi"]
        self.bad(head + "\n".join(nine), 14)
        self.assertTrue(self.check(head + "\n".join(nine[:-1])))

    def test_presentments(self):
        head = "manor 50\nlife a\nlife b\n"
        for row in (
            "say", "say 1", "say 1 on", "say 1 on a", "say 1 on a 5", "say 1 on a 00005", "say 1 on a 10000",
            "say 1 on c 0005", "say 0 on a 0005", "say 01 on a 0005", "say -1 on a 0005", "say 50 on a 0005",
            "say 51 on a 0005", "say on a 0005", "say 1 on a 0005 ", "say 1  on a 0005", "say 1 on a 0005 0006",
            "say 1 between a 0006 0005", "say 1 between a 0005", "say 1 alive a 9999", "say 1 alive a -001",
            "say 1 after a a 5", "say 1 after a b 05", "say 1 after a b 0005", "say 1 after a b 10000",
            "say 1 after a b -1", "say 1 within a b 00", "say 1 within a b", "say 1 within a c 5", "say 1 upon a 0005",
            "say 1 after a b 1000000", "say 1 after a b " + "9" * 3900, "say 1000000 on a 0005",
        ):
            self.bad(head + row, 3)
        for row in (
            "say 49 on a 0000", "say 1 on a 9999", "say 1 between a 0005 0005", "say 1 alive a 9998",
            "say 1 after a b 0", "say 1 after b a 9999", "say 1 within a b 10",
        ):
            self.assertTrue(self.check(head + row))
        self.bad(head + "say 1 on a 0005\nsay 1 on a 0005", 4)
        self.bad(head + "say 2 on a 0005\nsay 1 on a 0005", 4)
        self.bad(head + "say 9 on a 0005\nsay 10 on a 0006", 4)
        self.bad(head + "say 1 after a b 5\nsay 2 within a b 6\nsay 3 after b a 0", 5)
        self.assertTrue(self.check(head + "say 9 on a 0005\nsay 10 on a 0005"))
        more = [f"say {number} alive a 0005" for number in range(10, 41)]
        self.bad(head + "\n".join(more), 33)
        self.assertTrue(self.check(head + "\n".join(more[:-1])))

    def test_the_first_wrong_row_is_told(self):
        rows = ["manor 3", "life a", "life b", "hold m 0005 - a", "hold n 0005 - b", "say 1 on a 0005"]
        rows.append("say 2 on b 0005")
        for at in range(len(rows)):
            for later in range(at, len(rows)):
                spoilt = [row + " " if place in (at, later) else row for place, row in enumerate(rows)]
                self.bad("\n".join(spoilt), at)

    def test_each_row_left_out(self):
        rows = page(full_manor()).split("\n")
        for at in range(len(rows)):
            self.check("\n".join(rows[:at] + rows[at + 1:]))
            self.assertTrue(self.check("\n".join(rows[:at + 1])))


if __name__ == "__main__":
    unittest.main()
