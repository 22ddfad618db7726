"""Deeds and pages: how they are written, and that just what is so written is read."""

import itertools
import random
import re
import unittest

from budwright.errors import BadText
from budwright.garden import Garden
from budwright.pagelines import deed_text
from budwright.pages import page, read_deed, read_page
from gardens import LONG, NAMES, garden_state, refusal, some_deed, some_garden, whole_state
from samples import EVEN, FOUR, ONE, RING, TWO, UNEVEN

WRITTEN = {
    "sow oak 0,1;-1,0": ("sow", "oak", TWO),
    "sow a 0": ("sow", "a", ONE),
    "sow zzzzzzzz 0;50;-50": ("sow", "zzzzzzzz", ((0,), (50,), (-50,))),
    "grow oak 1": ("grow", "oak", 1),
    "grow oak -1": ("grow", "oak", -1),
    "grow oak 999999": ("grow", "oak", 999999),
    "grow oak -999999": ("grow", "oak", -999999),
    "walk oak 0,1,0": ("walk", "oak", (0, 1, 0)),
    "walk oak 2": ("walk", "oak", (2,)),
    "walk oak -": ("walk", "oak", ()),
    "walk oak -1,-20": ("walk", "oak", (-1, -20)),
    "hold oak 0": ("hold", "oak", 0),
    "release oak 3": ("release", "oak", 3),
    "reorder oak 1,0": ("reorder", "oak", (1, 0)),
    "reorder oak 0": ("reorder", "oak", (0,)),
    "reorder oak 7,-7,7": ("reorder", "oak", (7, -7, 7)),
    "graft elm oak oak": ("graft", "elm", "oak", "oak"),
    "graft a b c": ("graft", "a", "b", "c"),
    "uproot oak": ("uproot", "oak"),
    # What is no table, no place or no order is read, too: the garden refuses it.
    "sow oak 0,1;1": ("sow", "oak", ((0, 1), (1,))),
    "sow oak 999999;-999999": ("sow", "oak", ((999999,), (-999999,))),
    "sow oak 1,2,3,4,5,6,7,8,9": ("sow", "oak", ((1, 2, 3, 4, 5, 6, 7, 8, 9),)),
    "sow oak 0;0;0;0;0;0;0": ("sow", "oak", ((0,),) * 7),
    "sow sow 0,1;1,0": ("sow", "sow", ((0, 1), (1, 0))),
    "uproot uproot": ("uproot", "uproot"),
}
UNREADABLE = (
    "", " ", "-", "sow", "sow oak", "sow oak ", "sow  oak 0", " sow oak 0", "sow oak 0 ", "sow oak  0", "sow oak 0 0",
    "sow oak 0;", "sow oak ;0", "sow oak 0;;0", "sow oak ,", "sow oak 0,", "sow oak ,0", "sow oak 0,,1", "sow oak ;",
    "sow oak -", "sow oak 0,1;-", "sow oak 00", "sow oak 01", "sow oak -0", "sow oak +1", "sow oak --1", "sow oak 1-",
    "sow oak 1000000", "sow oak -1000000", "sow oak 0000001", "sow oak 1.0", "sow oak 1_0", "sow oak a", "sow oak 0, 1",
    "sow oak 0; 1", "sow oak (0)", "sow oak ((0,),)", "sow Oak 0", "sow oaks! 0", "sow abcdefghi 0", "sow oak1 0",
    "sow o-k 0", "sow 7 0", "Sow oak 0", "SOW oak 0", "sow oak 0\n", "\nsow oak 0", "sow oak 0\t", "sow\toak\t0",
    "sow oak 0\r", "sow,oak,0", "sow;oak;0",
    "grow", "grow oak", "grow oak 0 0", "grow oak 0,1", "grow oak -", "grow oak 00", "grow oak -0", "grow oak 0;0",
    "grow oak 1000000", "grow oak ", "grow  oak 0", "grow oak +0", "grow oak x", "grow 0 oak", "grow oak 0x1",
    "grow oak 1e3", "grow oaK 1",
    "walk", "walk oak", "walk oak ", "walk oak --", "walk oak -,0", "walk oak 0,-", "walk oak 0,", "walk oak ,0",
    "walk oak 0 1", "walk oak 0;1", "walk oak -0", "walk oak 00", "walk oak 0,01", "walk oak ()", "walk oak 1000000",
    "walk oak 0,1,", "walk oak 0,,1", "walk oak - ", "walk - oak", "walk oak 0, 1",
    "hold oak", "hold oak -", "hold oak 0,1", "hold oak 0 1", "release oak", "release oak -", "release oak 1,",
    "reorder oak", "reorder oak -", "reorder oak 0 1", "reorder oak 0;1", "reorder oak 1,0,", "reorder oak ",
    "reorder oak 01,0", "reorder oak 1,-0", "reorder oak 1000000,0",
    "graft", "graft elm", "graft elm oak", "graft elm oak oak oak", "graft elm oak ", "graft elm oak Oak",
    "graft Elm oak oak", "graft elm oaK oak", "graft elm,oak,oak", "graft elm  oak oak", "graft elm oak abcdefghi",
    "graft elm 0 1", "uproot", "uproot ", "uproot oak elm", "uproot oak ", "uproot  oak", "uproot OAK", "uproot 0",
    "uproot abcdefghi", "mow oak", "undo", "redo", "ask one kind", "exchange oak 0", "oak", "oak grow 0", "sowoak 0",
)
PIECES = re.compile(r"[a-z]+|-?\d+|.", re.DOTALL)


def slow_text(deed):
    """A deed's line, by what kinds of things it has."""
    word, *things = deed
    texts = [word]
    for thing in things:
        if thing == ():
            texts.append("-")
        elif isinstance(thing, tuple) and isinstance(thing[0], tuple):
            texts.append(";".join(",".join(map(str, row)) for row in thing))
        elif isinstance(thing, tuple):
            texts.append(",".join(map(str, thing)))
        else:
            texts.append(str(thing))
    return " ".join(texts)


NUMBER = r"(?:0|-?[1-9][0-9]{0,5})"
ROW = rf"{NUMBER}(?:,{NUMBER})*"
NAME = r"[a-z]{1,8}"
FORM = re.compile(rf"(?:sow {NAME} {ROW}(?:;{ROW})*|(?:grow|hold|release) {NAME} {NUMBER}|walk {NAME} (?:-|{ROW})"
                  rf"|reorder {NAME} {ROW}|graft {NAME} {NAME} {NAME}|uproot {NAME})")


class DeedTest(unittest.TestCase):
    def test_written(self):
        for text, deed in WRITTEN.items():
            with self.subTest(text):
                self.assertEqual(deed_text(deed), text)
                self.assertEqual(read_deed(text), deed)
        self.assertEqual(deed_text(deed=("uproot", "oak")), "uproot oak")
        self.assertEqual(read_deed(text="uproot oak"), ("uproot", "oak"))

    def test_kinds_of_values(self):
        for text in WRITTEN:
            deed = read_deed(text)
            self.assertIs(type(deed), tuple)
            self.assertEqual([type(thing) for thing in deed[:2]], [str, str])
            self.assertTrue(all(type(thing) in (str, int, tuple) for thing in deed))
            if deed[0] == "sow":
                self.assertTrue(all(type(row) is tuple for row in deed[2]))

    def check_unreadable(self, text):
        with self.subTest(text), self.assertRaises(BadText) as caught:
            read_deed(text)
        self.assertEqual(caught.exception.at, 0)

    def test_unreadable(self):
        for text in UNREADABLE:
            self.check_unreadable(text)

    def test_some_deeds(self):
        source = random.Random(131)
        for _ in range(400):
            deed = some_deed(source)
            self.assertEqual(deed_text(deed), slow_text(deed))
            self.assertEqual(read_deed(deed_text(deed)), deed)

    def test_all_tables(self):
        for table in EVEN + UNEVEN:
            deed = ("sow", "oak", table)
            self.assertEqual(read_deed(deed_text(deed)), deed)

    def check_text(self, text):
        if FORM.fullmatch(text):
            self.assertEqual(deed_text(read_deed(text)), text)
        else:
            self.check_unreadable(text)

    def test_one_sign_bent(self):
        signs = "019-,; azA+.\n_`{"
        for text in WRITTEN:
            for at in range(len(text) + 1):
                self.check_text(text[:at] + text[at + 1:])
                for sign in signs:
                    self.check_text(text[:at] + sign + text[at:])
                    self.check_text(text[:at] + sign + text[at + 1:])

    def test_pieces_mixed(self):
        source = random.Random(132)
        pieces = sorted({piece for text in WRITTEN for piece in PIECES.findall(text)})
        for _ in range(3000):
            self.check_text("".join(source.choice(pieces) for _ in range(source.randint(1, 8))))
        rests = ("0", "-", "0,1", "0;1", "oak", "oak elm", "oak 0", "")
        words = ("sow", "grow", "walk", "hold", "release", "reorder", "graft", "uproot")
        for word, between, rest in itertools.product(words, (" oak ", " "), rests):
            self.check_text(word + between + rest)


class PageTest(unittest.TestCase):
    def test_by_hand(self):
        garden = Garden()
        garden.sow("oak", TWO)
        garden.walk("oak", [])
        garden.walk("oak", [0, 1])
        garden.graft("elm", "oak", "oak")
        garden.reorder("elm", (3, 0, 1, 2))
        garden.hold("elm", 3)
        garden.release("elm", 3)
        garden.grow("elm", 2)
        garden.uproot("oak")
        text = ("sow oak 0,1;-1,0\nwalk oak -\nwalk oak 0,1\ngraft elm oak oak\nreorder elm 3,0,1,2\nhold elm 3\n"
                "release elm 3\ngrow elm 2\nuproot oak\n")
        self.assertEqual((page(garden), str(garden)), (text, text))
        self.assertEqual(page(garden=garden), text)
        self.assertEqual(garden_state(read_page(text=text)), garden_state(garden))

    def test_the_empty_page(self):
        self.assertEqual((page(Garden()), str(Garden())), ("", ""))
        garden = read_page("")
        self.assertIs(type(garden), Garden)
        self.assertEqual(whole_state(garden), whole_state(Garden()))

    def test_there_and_back(self):
        source = random.Random(133)
        for _ in range(30):
            garden = some_garden(source, 40, NAMES[:4])
            garden.ask("one", ("kind", "oak"))
            before = whole_state(garden)
            read = read_page(page(garden))
            self.assertEqual(whole_state(garden), before)
            self.assertTrue(read == garden)
            self.assertEqual(read.done(), garden.done())
            self.assertEqual((read.asks(), read.news()), ([], []))
            self.assertEqual(refusal(read.redo), ("NothingLeft", {}))
            self.assertEqual(page(read), page(garden))
            for _ in range(20):
                if source.random() < 0.2 and garden.done():
                    self.assertEqual(read.undo(), garden.undo())
                deed = some_deed(source, NAMES[:4])
                self.assertEqual(refusal(read.do, deed), refusal(garden.do, deed))
                self.assertEqual(garden_state(read)[:3], garden_state(garden)[:3])

    def test_taken_back_to_the_beginning(self):
        source = random.Random(134)
        garden = some_garden(source, 30, NAMES[:3])
        deeds = garden.done()
        read = read_page(page(garden))
        self.assertEqual([read.undo() for _ in deeds], deeds[::-1])
        self.assertEqual(refusal(read.undo), ("NothingLeft", {}))
        self.assertEqual(read, Garden())

    def test_deeds_taken_back_are_not_written(self):
        garden = Garden()
        garden.sow("oak", TWO)
        garden.sow("elm", TWO)
        garden.undo()
        self.assertEqual(page(garden), "sow oak 0,1;-1,0\n")

    def test_limits(self):
        garden = Garden(limit=1)
        garden.sow("oak", TWO)
        read = read_page(page(garden))
        for name in NAMES[1:8]:
            read.sow(name, ONE)
        self.assertEqual(refusal(read.sow, "new", ONE), ("Full", {"most": 8}))

    def check_bad(self, text, at):
        with self.subTest(text), self.assertRaises(BadText) as caught:
            read_page(text)
        self.assertEqual(caught.exception.at, at)

    def test_lines_that_are_not_so_written(self):
        lines = ["sow oak 0,1;-1,0\n", "grow oak 1\n", "sow elm 0\n"]
        for at, bad in itertools.product(range(4), UNREADABLE):
            if "\n" not in bad:
                self.check_bad("".join(lines[:at] + [bad + "\n"] + lines[at:]), at)
                self.check_bad("".join(lines[:at] + [bad + "\n"] + lines[at:]) + "grow nobody 0\n", at)
        self.check_bad("\n", 0)
        self.check_bad("\n\n", 0)
        self.check_bad("".join(lines) + "\n", 3)
        self.check_bad("".join(lines) + " ", 3)
        self.check_bad(lines[0] + "\n" + lines[1], 1)
        self.check_bad("\n".join(lines), 1)

    def test_lines_that_lack_their_line_feed(self):
        lines = ["sow oak 0,1;-1,0\n", "grow oak 1\n", "sow elm 0\n"]
        for many in range(3):
            self.check_bad("".join(lines[:many + 1])[:-1], many)
        self.check_bad(lines[0] + "x", 1)
        self.check_bad(lines[0] + "grow oak 9\n" + "sow elm 0", 1)

    def test_deeds_that_are_refused(self):
        ahead = "sow oak 0,1;-1,0\nhold oak 1\nsow ring 0,1,-1;-1,0,1;1,-1,0\nsow tall 0,7;-7,0;7,2\n"
        for bad in ("sow oak 0", "sow elm 0,1;1,0", "sow elm 1", "sow elm 0,51;-51,0", "sow elm 0,1", "sow elm 0,1;1",
                    "grow oak 1", "grow oak 2", "grow oak -1", "grow elm 0", "walk oak 0,1", "walk oak 0,2",
                    "walk elm -", "walk oak " + ",".join(["0"] * 61), "hold oak 1", "hold oak 5", "hold elm 0",
                    "release oak 0", "release oak 9", "reorder oak 0", "reorder oak 1,1", "reorder ring 1,0",
                    "graft oak oak oak", "graft new oak elm", "graft new elm oak", "graft new ring oak", "grow tall 0",
                    "uproot elm", "grow oak 999999"):
            for behind in ("", "grow oak 0\n", "nonsense\n", "grow oak 0"):
                self.check_bad(ahead + bad + "\n" + behind, 4)
        self.check_bad("grow oak 0\n" + ahead, 0)

    def test_nine_webs(self):
        lines = [f"sow {name} 0\n" for name in NAMES[:8]]
        self.assertEqual(len(read_page("".join(lines))), 8)
        self.check_bad("".join(lines) + "sow new 0\n", 8)
        self.check_bad("".join(lines) + "uproot oak\nsow new 0\nsow oak 0\n", 10)

    def test_long_pages(self):
        garden = Garden()
        garden.sow("oak", FOUR)
        garden.sow("elm", LONG)
        garden.sow("ash", RING)
        for step in range(60):
            garden.grow("ash", step % 3)
            garden.hold("oak", step % 4)
            garden.release("oak", step % 4)
        read = read_page(page(garden))
        self.assertEqual(garden_state(read), garden_state(garden))
        self.assertEqual(len(read.done()), 183)


if __name__ == "__main__":
    unittest.main()
