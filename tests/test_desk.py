import random
import re
import unittest

from lifehold.desk import Desk
from lifehold.errors import HoldError, Missing
from lifehold.manor import Manor
from lifehold.pages import page
from manors import all_of, undone_of

NAME = "([^ ]+)"
NUMBER = "([0-9]{1,6})"
SAID = {
    "on": [NAME, NUMBER], "between": [NAME, NUMBER, NUMBER], "alive": [NAME, NUMBER], "after": [NAME, NAME, NUMBER],
    "within": [NAME, NAME, NUMBER],
}
LINES = {
    "life": [NAME], "put": [NAME, NAME], "change": [NAME, NUMBER, NAME], "end": [NAME, NUMBER], "strike": [NUMBER],
    "undo": [], "redo": [], "may": [NAME, NUMBER], "sure": [NAME, NUMBER], "days": [NAME, NAME], "held": [NAME, NAME],
    "beasts": [NAME], "ends": [NAME, NUMBER], "dies": [NAME], "page": [],
}
DEEDS = {"life": "life", "put": "put_in", "change": "change", "end": "give_up", "strike": "strike"}


def matched(line, parts):
    """The things of a line that is so made, its numbers as such; None."""
    found = re.fullmatch(" ".join(parts), line)
    if found is None:
        return None
    kinds = [part for part in parts if part in (NAME, NUMBER)]
    return [int(thing) if kind == NUMBER else thing for kind, thing in zip(kinds, found.groups())]


def said_in(text):
    """The presentment whose things these are; None."""
    for word, parts in SAID.items():
        things = matched(text, [word] + parts)
        if things is not None:
            return (word, *things)
    return None


def name_or_dash(name):
    return name if name else "-"


def answer(manor, word, things):
    """Point [19] by a manor."""
    if word in DEEDS:
        told = getattr(manor, DEEDS[word])(*things)
    elif word in ("undo", "redo"):
        getattr(manor, word)()
        told = None
    elif word == "may":
        return " ".join(name_or_dash(name) for name in manor.may(*things))
    elif word == "sure":
        told = manor.sure(*things)
        return "doubt" if told is None else name_or_dash(told)
    elif word == "days":
        span = manor.days(*things)
        return "none" if span is None else f"{span.first:04}-{span.until - 1:04}"
    elif word in ("held", "beasts"):
        return "{} {}".format(*getattr(manor, word)(*things))
    elif word == "ends":
        return " ".join(manor.enders(*things)) or "none"
    elif word == "dies":
        return "{0.first:04}-{1:04}".format(manor.dies(*things), manor.dies(*things).until - 1)
    else:
        return page(manor)
    return "done"


def plain_answer(manor, line):
    """What a desk with this manor is to answer."""
    try:
        for word, parts in LINES.items():
            things = matched(line, [word] + parts)
            if things is not None:
                return answer(manor, word, things)
        if found := re.fullmatch(f"let {NAME} {NUMBER}((?: [^ ]+)+)", line):
            manor.let(found[1], found[3][1:].split(" "), int(found[2]))
            return "done"
        word, blank, rest = line.partition(" ")
        if word == "say" and said_in(rest):
            return str(manor.present(said_in(rest)))
        number, blank, rest = rest.partition(" ")
        if word == "right" and re.fullmatch(NUMBER, number) and said_in(rest):
            manor.right(int(number), said_in(rest))
            return "done"
    except (HoldError, Missing) as refusal:
        return "no " + refusal.__class__.__name__
    return "what"


def desk_with(*lines):
    desk = Desk()
    for line in lines:
        desk.tell(line)
    return desk


START = [
    "life anne", "life bet", "life cat", "let mill 5 anne bet", "let gone 0 cat", "end gone 9",
    "say between anne 30 40",
    "say after bet anne 5", "say within bet anne 12",
]


class DeskCase(unittest.TestCase):
    def told(self, desk, line, answer):
        self.assertEqual(desk.tell(line), answer, line)

    def unchanged(self, desk, line, answer):
        ahead, undone = all_of(desk.manor), undone_of(desk.manor)
        self.told(desk, line, answer)
        self.assertEqual((all_of(desk.manor), undone_of(desk.manor)), (ahead, undone), line)


class TestLines(DeskCase):
    def test_deeds(self):
        desk = Desk()
        for line, answer in (
            ("life anne", "done"), ("life bet", "done"), ("life cat", "done"), ("life dora", "done"),
            ("let mill 5 anne bet", "done"), ("let acre 0 cat", "done"), ("let b 9999 anne bet cat dora", "done"),
            ("put mill cat", "done"), ("change mill 2 dora", "done"), ("end acre 40", "done"), ("say on anne 30", "1"),
            ("say between bet 20 40", "2"), ("say alive cat 7", "3"), ("say after bet anne 0", "4"),
            ("say within cat bet 9999", "5"), ("right 2 between bet 25 45", "done"), ("strike 3", "done"),
            ("say on bet 33", "6"), ("undo", "done"), ("undo", "done"), ("redo", "done"), ("redo", "done"),
        ):
            self.told(desk, line, answer)
        self.assertEqual(desk.manor.past(), [
            ("life", "anne"), ("life", "bet"), ("life", "cat"), ("life", "dora"), ("let", "mill", ("anne", "bet"), 5),
            ("let", "acre", ("cat",), 0), ("let", "b", ("anne", "bet", "cat", "dora"), 9999), ("put_in", "mill", "cat"),
            ("change", "mill", 2, "dora"), ("give_up", "acre", 40), ("present", ("on", "anne", 30)),
            ("present", ("between", "bet", 20, 40)), ("present", ("alive", "cat", 7)),
            ("present", ("after", "bet", "anne", 0)), ("present", ("within", "cat", "bet", 9999)),
            ("right", 2, ("between", "bet", 25, 45)), ("strike", 3), ("present", ("on", "bet", 33)),
        ])

    def test_questions(self):
        desk = desk_with(*START)
        for line, answer in (
            ("may mill 29", "anne"), ("may mill 34", "anne bet"), ("may mill 35", "anne bet -"),
            ("may mill 45", "bet -"), ("may mill 9999", "-"), ("sure mill 29", "anne"), ("sure mill 35", "doubt"),
            ("sure mill 9999", "-"), ("days mill anne", "0005-0039"), ("days mill bet", "0030-0051"),
            ("days gone cat", "0000-0008"), ("held mill anne", "25 35"), ("held mill bet", "5 12"),
            ("held gone cat", "0 9"), ("beasts mill", "2 2"), ("beasts gone", "0 1"), ("ends mill 34", "anne"),
            ("ends mill 38", "none"), ("ends mill 5", "anne bet cat"), ("ends gone 5", "cat"),
            ("dies anne", "0030-0040"), ("dies bet", "0035-0052"), ("dies cat", "0000-9999"),
        ):
            self.unchanged(desk, line, answer)
        self.told(desk, "say within bet anne 0", "no Against")
        self.told(desk, "let early 60 anne", "done")
        self.unchanged(desk, "days early anne", "none")

    def test_page(self):
        desk = desk_with(*START)
        self.unchanged(desk, "page", "\n".join([
            "manor 4", "life anne", "life bet", "life cat", "hold gone 0000 0009 cat", "hold mill 0005 - anne bet",
            "say 1 between anne 0030 0040", "say 2 after bet anne 5", "say 3 within bet anne 12",
        ]))
        self.told(Desk(), "page", "manor 1")

    def test_numbers_as_one_likes(self):
        for number in ("5", "05", "005", "0005", "00005", "000005"):
            desk = desk_with("life anne", "life bet")
            self.told(desk, f"let mill {number} anne", "done")
            self.assertEqual(desk.manor.term("mill"), (5, None))
            self.told(desk, f"say on anne {number}", "1")
            self.told(desk, f"say after bet anne {number}", "2")
            self.told(desk, f"right {number[:-1]}1 alive anne {number[:-1]}4", "done")
            self.assertEqual(desk.manor.presentments(), [(1, ("alive", "anne", 4)), (2, ("after", "bet", "anne", 5))])
            self.told(desk, f"change mill {number[:-1]}0 bet", "done")
            self.told(desk, f"may mill {number}", "bet")
            self.told(desk, f"sure mill {number}", "bet")
            self.told(desk, f"ends mill {number}", "anne bet")
            self.told(desk, f"strike {number[:-1]}1", "done")
            self.told(desk, f"end mill {number[:-1]}9", "done")

    def test_refused(self):
        desk = desk_with(*START, "let full 0 anne bet cat")
        desk.tell("life dora")
        desk.tell("life eve")
        desk.tell("put full dora")
        for line, kind in (
            ("life Anne", "BadName"), ("life anne", "Taken"), ("let Mill 5 anne", "BadName"),
            ("let mill 5 anne", "Taken"), ("let new 5 anne anne", "BadRow"),
            ("let new 5 anne bet cat dora eve", "BadRow"), ("let new 5 who", "NoLife"),
            ("let new 10000 anne", "BadDay"), ("let new 999999 anne", "BadDay"), ("put who cat", "NoHolding"),
            ("put mill who", "NoLife"), ("put gone anne", "GivenUp"), ("put mill anne", "Twice"),
            ("put full eve", "Full"), ("change who 9 who", "NoHolding"), ("change mill 2 who", "NoPlace"),
            ("change mill 0 who", "NoLife"), ("change gone 0 anne", "GivenUp"), ("change mill 0 bet", "Twice"),
            ("change mill 0 cat", "Held"), ("end who 9", "NoHolding"), ("end mill 5", "BadDay"),
            ("end gone 999999", "BadDay"), ("end gone 20", "GivenUp"), ("say after anne anne 5", "BadRow"),
            ("say on who 5", "NoLife"), ("say on anne 10000", "BadDay"), ("say between anne 6 5", "BadDay"),
            ("say alive anne 9999", "BadDay"), ("say on anne 50", "Against"), ("right 9 on anne 35", "NoPresentment"),
            ("right 0 on who 99999", "NoPresentment"), ("right 1 within bet bet 5", "BadRow"),
            ("right 1 on who 5", "NoLife"), ("right 1 on anne 99999", "BadDay"), ("right 3 on bet 30", "Against"),
            ("strike 0", "NoPresentment"), ("strike 4", "NoPresentment"), ("redo", "Nothing"),
            ("may who 99999", "NoHolding"), ("may mill 10000", "BadDay"), ("may mill 4", "Idle"),
            ("may gone 9", "Idle"), ("sure who 5", "NoHolding"), ("sure mill 10000", "BadDay"), ("sure mill 0", "Idle"),
            ("ends who 5", "NoHolding"), ("ends mill 10000", "BadDay"), ("ends gone 10", "Idle"),
            ("days who anne", "NoHolding"), ("days mill cat", "NoLife"), ("held who anne", "NoHolding"),
            ("held mill who", "NoLife"), ("beasts who", "NoHolding"), ("dies who", "NoLife"), ("dies mill", "NoLife"),
        ):
            self.unchanged(desk, line, "no " + kind)
        self.unchanged(Desk(), "undo", "no Nothing")

    def test_full(self):
        desk = desk_with(*["life " + name for name in "abcdefghij"], *[f"let {name} 5 a" for name in "abcdefgh"])
        self.unchanged(desk, "life k", "no Full")
        self.unchanged(desk, "let k 5 a", "no Full")
        for number in range(1, 31):
            self.told(desk, f"say alive a {number}", str(number))
        self.unchanged(desk, "say alive a 3", "no Full")
        self.told(desk, "right 30 alive a 3", "done")
        self.told(desk, "strike 30", "done")
        self.told(desk, "say alive a 3", "31")


class TestWhat(DeskCase):
    def test_other_lines(self):
        desk = desk_with(*START)
        desk.tell("undo")
        for line in (
            "", " ", "  ", "\n", "who", "Life dora", "LIFE dora", "life", "life ", " life dora", "life  dora",
            "life dora ", "life dora eve", "let", "let new", "let new 5", "let new 5 ", "let new anne",
            "let new anne 5", "let new -5 anne", "let new +5 anne", "let new 5  anne", "let new 5 anne ",
            "let  new 5 anne", "let new 0000005 anne", "put", "put mill", "put mill cat cat", "put mill  cat",
            "put_in mill cat", "change mill cat", "change mill 0", "change mill x cat", "change mill -1 cat",
            "change mill 0 cat cat", "change mill cat 0", "end", "end mill", "end mill x", "end mill 50 60",
            "end mill 5.", "end mill 1000000", "give_up mill 50", "say", "say on", "say on anne", "say on anne x",
            "say on anne 5 6", "say upon anne 5", "say on  5", "say on anne -5", "say On anne 5", "say between anne 5",
            "say between anne 5 x", "say between anne x 5", "say between anne 5 6 7", "say alive anne",
            "say alive anne 5 6", "say after anne 5", "say after anne bet", "say after anne bet x",
            "say after anne bet 5 6", "say within anne 5", "say within anne bet cat 5", "say within anne bet 0000005",
            "say 1 on anne 5", "right", "right 1", "right on anne 5", "right x on anne 5", "right 1 on anne",
            "right 1 upon anne 5", "right 1 on anne x", "right -1 on anne 5", "right 1 2 on anne 5",
            "right 0000001 on anne 5", "strike", "strike x", "strike 1 2", "strike -1", "strike 0000001", "undo 1",
            "undo ", " undo", "undo undo", "redo 1", "redo ", "may", "may mill", "may mill x", "may mill 5 6",
            "may mill -5", "may  5", "sure", "sure mill", "sure mill x", "sure mill 5 6", "days", "days mill",
            "days mill anne 5", "days mill ", "held", "held mill", "held mill anne bet", "beasts", "beasts mill 5",
            "beasts ", "ends", "ends mill", "ends mill x", "ends mill 5 5", "dies", "dies anne bet", "dies ", "page 1",
            "page ", "page\n", "undo\n", "may mill 5\n", "may mill\n5", "manor 1", "hold mill 0005 - anne",
            "may mill 1_0", "may mill 0x5", "bearing on anne 5", "may\tmill\t5", "what", "no BadDay", "done",
        ):
            self.unchanged(desk, line, "what")
        self.told(desk, "redo", "done")

    def test_names_are_any_words(self):
        desk = desk_with(*START)
        for word in (
            "-", "5", "Anne", "an\nne", "~", "!", "a-b", "anne,", "undo", "nameless", "ninechars", "a" * 3000, "\n",
        ):
            self.unchanged(desk, f"dies {word}", "no NoLife")
            self.unchanged(desk, f"beasts {word}", "no NoHolding")
            self.unchanged(desk, f"may {word} 5", "no NoHolding")
            self.unchanged(desk, f"put mill {word}", "no NoLife")
            self.unchanged(desk, f"change {word} 0 anne", "no NoHolding")
            self.unchanged(desk, f"let new 5 {word}", "no NoLife")
            self.unchanged(desk, f"let new 5 {word} {word}", "no BadRow")
            self.unchanged(desk, f"say on {word} 5", "no NoLife")
            self.unchanged(desk, f"say after {word} {word} 5", "no BadRow")
        for word in ("-", "5", "Anne", "an\nne", "~", "a-b", "ninechars", "a" * 3000, "anne\n"):
            self.unchanged(desk, f"life {word}", "no BadName")
            self.unchanged(desk, f"let {word} 5 anne", "no BadName")
        for word in ("undo", "life", "on", "none", "doubt"):
            self.told(desk, f"life {word}", "done")
            self.told(desk, f"let {word} 5 {word}", "done")
            self.told(desk, f"say on {word} 20", str(desk.manor.coming()))
            self.told(desk, f"sure {word} 5", word)


class TestField(DeskCase):
    def test_the_very_manor(self):
        desk = Desk()
        manor = desk.manor
        self.assertIsInstance(manor, Manor)
        self.assertEqual(manor, Manor())
        for line in START + ["undo", "redo", "page", "who", "life anne", "strike 1", "undo"]:
            desk.tell(line)
            self.assertIs(desk.manor, manor)
        manor.life("dora")
        self.told(desk, "dies dora", "0000-9999")
        self.told(desk, "undo", "done")
        self.assertEqual(manor.lives(), ["anne", "bet", "cat"])

    def test_two_side_by_side(self):
        one, other = Desk(), Desk()
        self.assertIsNot(one.manor, other.manor)
        for line in START:
            one.tell(line)
        self.assertEqual(other.manor, Manor())
        self.told(other, "life bet", "done")
        self.told(other, "say on bet 3", "1")
        self.told(other, "undo", "done")
        self.told(one, "redo", "no Nothing")
        self.told(one, "dies bet", "0035-0052")
        self.told(other, "dies bet", "0000-9999")


class TestByChance(DeskCase):
    def word(self, chance, good):
        return chance.choice(good.split() * 4 + ["Anne", "who", "-", ""])

    def number(self, chance):
        number = str(chance.choice([0, 1, 2, 3, 4, 5, 9, 12, 20, 30, chance.randint(0, 60), 9998, 9999, 10000]))
        return chance.choice([number, number, number.zfill(4), number.zfill(6),
        "x" if chance.random() < 0.1 else number])

    def parts(self, chance, word, parts):
        """Things for the parts of a line: its first name is a holding's, but where lives alone are asked for."""
        told = []
        for at, part in enumerate(parts):
            if part == NUMBER and word == "change":
                told.append(chance.choice(["0", "1", "02", "3"]))
            elif part == NUMBER:
                told.append(self.number(chance))
            elif at == 0 and word not in ("life", "dies", "say", "right"):
                told.append(self.word(chance, "mill acre croft"))
            else:
                told.append(self.word(chance, "anne bet cat dora"))
        return told

    def line(self, chance):
        word = chance.choice(list(LINES) + ["let", "let", "say", "say", "say", "right"])
        kind = chance.choice(list(SAID))
        if word == "let":
            words = [word] + self.parts(chance, word, [NAME, NUMBER] + [NAME] * chance.randint(1, 4))
        elif word == "say":
            words = [word, kind] + self.parts(chance, word, SAID[kind])
        elif word == "right":
            words = [word, self.number(chance), kind] + self.parts(chance, word, SAID[kind])
        else:
            words = [word] + self.parts(chance, word, LINES[word])
        lot = chance.random()
        if lot < 0.03:
            del words[chance.randrange(len(words))]
        elif lot < 0.06:
            words.insert(chance.randint(0, len(words)), chance.choice([self.word(chance, "bet mill"),
            self.number(chance)]))
        elif lot < 0.08:
            chance.shuffle(words)
        return " ".join(words)

    def test_by_chance(self):
        seen = {}
        for seed in range(40):
            chance = random.Random(1100 + seed)
            desk, manor = Desk(), Manor()
            for line in START[:chance.randint(2, len(START))]:
                self.told(desk, line, plain_answer(manor, line))
            for _ in range(250):
                line = self.line(chance)
                want = plain_answer(manor, line)
                self.told(desk, line, want)
                case = want if want[:2] == "no" or want == "what" else line.partition(" ")[0]
                seen[case] = seen.get(case, 0) + 1
            self.assertEqual(all_of(desk.manor), all_of(manor))
            self.assertEqual(undone_of(desk.manor), undone_of(manor))
        for case in list(LINES) + ["let", "say", "right", "what", "no Idle", "no Against", "no NoLife", "no BadDay"]:
            self.assertGreater(seen[case], 5, case)


if __name__ == "__main__":
    unittest.main()
