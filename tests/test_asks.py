"""Asks: their answers, refusals in place of answers, and news."""

import fractions
import itertools
import random
import unittest

from budwright.garden import Garden
from budwright.kinds import kind
from gardens import BAD_NAMES, LONG, NAMES, refusal, some_deed, some_garden, whole_state
from samples import ENDLESS, FOUR, NO_NUMBERS, ONE, RING, TWO

QUESTIONS = (("terms", "oak", 0), ("worth", "oak", 0, ((1, 2), (3, 1))), ("alike", "oak", "elm"), ("kind", "oak"))
BAD_QUESTIONS = (
    (), ("terms",), ("terms", "oak"), ("terms", "oak", 0, 0), ("worth", "oak", 0), ("worth", "oak", 0, (), ()),
    ("alike", "oak"), ("alike", "oak", "elm", "ash"), ("kind",), ("kind", "oak", "elm"), ("kinds", "oak"),
    ("Kind", "oak"), ("", "oak"), ("oak", "kind"), (7, "oak"), (None, "oak"), (True, "oak"), (["kind"], "oak"),
    (("kind",), "oak"), ("kind ", "oak"), ("grow", "oak", 0), ("names",), ("len",),
)


def answer(garden, question):
    """What a question is answered with, as news of a twin tell it."""
    twin = garden.twin()
    for name, _ in twin.asks():
        twin.unask(name)
    twin.ask("asked", question)
    told = twin.news()
    assert len(told) == 1 and told[0][0] == "asked"
    return told[0][1]


def slow_answer(garden, question):
    """The answer, or the first of the refusals' words that apply."""
    word, *things = question
    names = [things[0]] + ([things[1]] if word == "alike" else [])
    if any(name not in garden.names() for name in names):
        return "no web"
    webs = [garden.web(name) for name in names]
    if word == "alike":
        for order in itertools.permutations(range(len(webs[0]))):
            other = webs[0].twin()
            other.reorder(order)
            if (other.table(), other.buds()) == (webs[1].table(), webs[1].buds()):
                return order
        return None
    if word == "kind":
        return kind(webs[0].table())[0]
    if things[1] not in range(webs[0].places()):
        return "no place"
    bud = webs[0].bud(things[1])
    if word == "terms":
        return len(bud.terms())
    if len(things[2]) != webs[0].places():
        return "bad sum"
    for powers, _ in bud.terms():
        if any(power < 0 and part[0] == 0 for power, part in zip(powers, things[2])):
            return "no part"
    return bud.worth(list(things[2]))


class AnswersTest(unittest.TestCase):
    def setUp(self):
        self.garden = Garden()
        self.garden.sow("oak", TWO)
        self.garden.sow("elm", LONG)

    def check(self, question, told):
        with self.subTest(question):
            self.assertEqual(answer(self.garden, question), told)

    def test_terms(self):
        self.check(("terms", "oak", 0), 1)
        self.garden.walk("oak", [0, 1])
        self.check(("terms", "oak", 0), 2)
        self.check(("terms", "oak", 1), 3)
        self.garden.reorder("oak", (1, 0))
        self.check(("terms", "oak", 0), 3)
        self.check(("terms", "elm", 4), 1)
        for place in (2, -1, 10 ** 20, *NO_NUMBERS):
            self.check(("terms", "oak", place), "no place")
        self.check(("terms", "elm", 5), "no place")
        self.check(("terms", "nobody", 9), "no web")

    def test_worth(self):
        self.check(("worth", "oak", 0, ((1, 2), (3, 1))), (1, 2))
        self.garden.grow("oak", 0)
        self.check(("worth", "oak", 0, ((1, 2), (3, 1))), (8, 1))
        self.check(("worth", "oak", 1, ((1, 2), (3, 1))), (3, 1))
        self.check(("worth", "oak", 1, ((0, 1), (-3, 7))), (-3, 7))
        self.check(("worth", "elm", 3, ((0, 1), (0, 1), (0, 1), (5, 4), (0, 1))), (5, 4))

    def test_worth_refused(self):
        self.garden.grow("oak", 0)
        nought, one = (0, 1), (1, 1)
        self.check(("worth", "oak", 0, (nought, one)), "no part")
        for parts in ((), (nought,), (nought, one, one), (nought,) * 5):
            self.check(("worth", "oak", 0, parts), "bad sum")
            self.check(("worth", "oak", 2, parts), "no place")
            self.check(("worth", "nobody", 2, parts), "no web")
        for place in (2, -1, *NO_NUMBERS):
            self.check(("worth", "oak", place, (nought, one)), "no place")
        self.check(("worth", "nobody", 0, (one, one)), "no web")

    def test_alike(self):
        self.check(("alike", "oak", "oak"), (0, 1))
        self.check(("alike", "oak", "elm"), None)
        self.garden.sow("ash", TWO)
        self.check(("alike", "oak", "ash"), (0, 1))
        self.garden.walk("oak", [0, 1, 0])
        self.check(("alike", "oak", "ash"), None)
        self.garden.walk("ash", [1, 0])
        self.check(("alike", "oak", "ash"), (1, 0))
        self.check(("alike", "nobody", "oak"), "no web")
        self.check(("alike", "oak", "nobody"), "no web")
        self.check(("alike", "nobody", "nobody"), "no web")

    def test_alike_is_the_order_of_the_first(self):
        self.garden.sow("ash", RING)
        self.garden.sow("fir", RING)
        self.garden.reorder("fir", (1, 2, 0))
        self.check(("alike", "ash", "fir"), (1, 2, 0))
        self.check(("alike", "fir", "ash"), (2, 0, 1))

    def test_kind(self):
        self.check(("kind", "oak"), "finite")
        self.check(("kind", "elm"), "finite")
        for number, table in enumerate(ENDLESS[:5]):
            self.garden.sow(f"dark{'abcde'[number]}", table)
            self.check(("kind", f"dark{'abcde'[number]}"), "endless")
        self.check(("kind", "nobody"), "no web")

    def test_webs_that_are_no_names(self):
        for name in BAD_NAMES:
            for question in (("kind", name), ("terms", name, 0), ("alike", "oak", name), ("alike", name, "oak"),
                             ("worth", name, 0, ((1, 1), (1, 1)))):
                self.check(question, "no web")

    def test_of_some_gardens(self):
        source = random.Random(121)
        parts = ((1, 2), (3, 1), (0, 1), (-2, 3), (5, 7), (1, 1), (0, 1), (4, 9))
        for _ in range(60):
            self.garden = some_garden(source, 20, NAMES[:4])
            for _ in range(12):
                word, name = source.choice(("terms", "worth", "alike", "kind")), source.choice(NAMES[:5])
                if word == "alike":
                    question = (word, name, source.choice(NAMES[:5]))
                elif word == "kind":
                    question = (word, name)
                else:
                    question = (word, name, source.choice((0, 0, 1, 1, 2, 3, -1, 5)))
                    if word == "worth":
                        many = source.choice((0, 1, 2, 2, 2, 3, 4, 4, 5))
                        question += (tuple(source.sample(parts, many)),)
                self.check(question, slow_answer(self.garden, question))


class AsksTest(unittest.TestCase):
    def test_asks_are_told_rising(self):
        garden = Garden()
        for name, question in zip(("m", "a", "zz", "ab"), QUESTIONS):
            self.assertIsNone(garden.ask(name, question))
        self.assertEqual(garden.asks(), [("a", QUESTIONS[1]), ("ab", QUESTIONS[3]), ("m", QUESTIONS[0]),
                                         ("zz", QUESTIONS[2])])
        self.assertIsNone(garden.unask("m"))
        self.assertEqual([name for name, question in garden.asks()], ["a", "ab", "zz"])

    def test_they_are_no_deeds(self):
        garden = Garden()
        garden.sow("oak", TWO)
        garden.undo()
        for name, question in zip(NAMES, QUESTIONS):
            garden.ask(name, question)
        garden.unask("elm")
        garden.news()
        self.assertEqual((garden.done(), str(garden), garden == Garden()), ([], "", True))
        self.assertEqual(refusal(garden.undo)[0], "NothingLeft")
        self.assertEqual(garden.redo(), ("sow", "oak", TWO))

    def check_refused(self, garden, asked, question, told, **fields):
        before = whole_state(garden)
        with self.subTest((asked, question)):
            self.assertEqual(refusal(garden.ask, asked, question), (told, fields))
        self.assertEqual(whole_state(garden), before)

    def asking(self, many):
        garden = Garden()
        for name, question in zip(NAMES, itertools.islice(itertools.cycle(QUESTIONS), many)):
            garden.ask(name, question)
        return garden

    def test_refused_in_their_order(self):
        for many in (0, 1, 5, 6):
            garden = self.asking(many)
            for question in QUESTIONS + BAD_QUESTIONS[:6]:
                for name in BAD_NAMES:
                    self.check_refused(garden, name, question, "BadName")
                for name in NAMES[:many]:
                    self.check_refused(garden, name, question, "Taken", name=name)
        for question in QUESTIONS + BAD_QUESTIONS:
            self.check_refused(self.asking(6), "new", question, "Full", most=6)
        for question in BAD_QUESTIONS:
            self.check_refused(self.asking(5), "new", question, "BadAsk")
            self.check_refused(self.asking(0), "new", question, "BadAsk")

    def test_room_for_six(self):
        garden = self.asking(6)
        garden.unask("oak")
        garden.ask("new", ("kind", "oak"))
        self.assertEqual(len(garden.asks()), 6)
        self.check_refused(garden, "oak", ("kind", "oak"), "Full", most=6)
        small = Garden(limit=1)
        for name in NAMES[:6]:
            small.ask(name, ("kind", "oak"))
        self.check_refused(small, "new", ("kind", "oak"), "Full", most=6)

    def test_names_of_webs_are_free(self):
        garden = Garden()
        garden.sow("oak", TWO)
        garden.ask("oak", ("kind", "oak"))
        garden.ask("elm", ("kind", "elm"))
        garden.sow("elm", ONE)
        self.assertEqual(garden.news(), [("elm", "finite"), ("oak", "finite")])

    def test_unask_refused(self):
        garden = self.asking(2)
        before = whole_state(garden)
        for name in ("nobody", "ash", *BAD_NAMES):
            self.assertEqual(refusal(garden.unask, name), ("NoAsk", {"name": name}))
        self.assertEqual(whole_state(garden), before)
        garden.unask("oak")
        self.assertEqual(refusal(garden.unask, "oak"), ("NoAsk", {"name": "oak"}))

    def test_a_list_changed_later_changes_nothing(self):
        garden = Garden()
        garden.sow("oak", TWO)
        parts = [(1, 2), (3, 4)]
        garden.ask("one", ("worth", "oak", 0, parts))
        parts[0] = (9, 1)
        self.assertEqual(garden.asks(), [("one", ("worth", "oak", 0, ((1, 2), (3, 4))))])
        self.assertEqual(garden.news(), [("one", (1, 2))])
        self.assertEqual(parts, [(9, 1), (3, 4)])


class NewsTest(unittest.TestCase):
    def setUp(self):
        self.garden = Garden()
        self.garden.ask("width", ("terms", "oak", 0))
        self.garden.ask("kinds", ("kind", "oak"))
        self.garden.ask("same", ("alike", "oak", "elm"))

    def test_told_once_rising(self):
        self.assertEqual(self.garden.news(), [("kinds", "no web"), ("same", "no web"), ("width", "no web")])
        self.assertEqual(self.garden.news(), [])
        self.garden.sow("oak", TWO)
        self.assertEqual(self.garden.news(), [("kinds", "finite"), ("width", 1)])
        self.assertEqual(self.garden.news(), [])
        self.garden.sow("elm", RING)
        self.assertEqual(self.garden.news(), [("same", None)])
        self.assertEqual(self.garden.news(), [])
        self.garden.grow("oak", 0)
        self.assertEqual(self.garden.news(), [("width", 2)])

    def test_none_is_an_answer(self):
        self.garden.sow("oak", TWO)
        self.garden.sow("elm", RING)
        self.assertIn(("same", None), self.garden.news())
        self.assertEqual(self.garden.news(), [])
        self.garden.uproot("elm")
        self.assertEqual(self.garden.news(), [("same", "no web")])
        self.garden.undo()
        self.assertEqual(self.garden.news(), [("same", None)])

    def test_there_and_back_is_no_news(self):
        self.garden.sow("oak", TWO)
        self.garden.news()
        self.garden.grow("oak", 0)
        self.garden.undo()
        self.assertEqual(self.garden.news(), [])
        self.garden.redo()
        self.garden.grow("oak", 0)
        self.assertEqual(self.garden.news(), [])
        self.garden.undo()
        self.assertEqual(self.garden.news(), [("width", 2)])
        self.garden.undo()
        self.garden.undo()
        self.assertEqual(self.garden.news(), [("kinds", "no web"), ("width", "no web")])
        self.garden.redo()
        self.assertEqual(self.garden.news(), [("kinds", "finite"), ("width", 1)])

    def test_asked_anew_is_another_one(self):
        self.garden.sow("oak", TWO)
        self.garden.news()
        self.garden.unask("width")
        self.garden.ask("width", ("terms", "oak", 0))
        self.assertEqual(self.garden.news(), [("width", 1)])
        self.garden.unask("width")
        self.assertEqual(self.garden.news(), [])
        self.garden.ask("width", ("terms", "oak", 0))
        self.garden.unask("width")
        self.garden.ask("width", ("kind", "oak"))
        self.assertEqual(self.garden.news(), [("width", "finite")])

    def test_what_was_told_of_others_stays(self):
        self.garden.news()
        self.garden.unask("width")
        self.garden.ask("ahead", ("kind", "elm"))
        self.assertEqual(self.garden.news(), [("ahead", "no web")])

    def test_deeds_and_takings_back_leave_asks(self):
        before = self.garden.asks()
        source = random.Random(122)
        for _ in range(60):
            refusal(self.garden.do, some_deed(source, NAMES[:3]))
            if source.random() < 0.3:
                refusal(self.garden.undo)
            if source.random() < 0.2:
                refusal(self.garden.redo)
            self.assertEqual(self.garden.asks(), before)

    def test_twins_have_what_was_told(self):
        self.garden.sow("oak", TWO)
        self.garden.news()
        twin = self.garden.twin()
        self.assertEqual(twin.news(), [])
        twin.grow("oak", 0)
        self.assertEqual(twin.news(), [("width", 2)])
        self.assertEqual(self.garden.news(), [])
        self.garden.grow("oak", 0)
        third = self.garden.twin()
        self.assertEqual(self.garden.news(), [("width", 2)])
        self.assertEqual(third.news(), [("width", 2)])
        third.unask("width")
        self.garden.undo()
        self.assertEqual(self.garden.news(), [("width", 1)])
        self.assertEqual(third.news(), [])

    def test_against_answers(self):
        source = random.Random(123)
        questions = [("terms", "oak", 0), ("terms", "elm", 1), ("kind", "elm"), ("alike", "oak", "elm"),
                     ("worth", "oak", 0, ((1, 2), (0, 1))), ("worth", "elm", 1, ((2, 1), (3, 5)))]
        for _ in range(12):
            garden = Garden()
            told = {}
            for _ in range(40):
                refusal(garden.do, some_deed(source, ("oak", "elm", "elm")))
                name, question = source.choice(NAMES[:6]), source.choice(questions)
                step = source.random()
                if step < 0.2:
                    refusal(garden.ask, name, question)
                elif step < 0.25 and refusal(garden.unask, name) is None:
                    told.pop(name, None)
                elif step < 0.35:
                    refusal(garden.undo)
                elif step < 0.6:
                    answers = {name: slow_answer(garden, question) for name, question in garden.asks()}
                    fresh = [(name, answers[name]) for name in sorted(answers)
                             if name not in told or told[name] != answers[name]]
                    self.assertEqual(garden.news(), fresh)
                    told.update(fresh)


class GreatWorthTest(unittest.TestCase):
    def test_worths_of_long_parts(self):
        garden = Garden()
        garden.sow("oak", FOUR)
        garden.walk("oak", [0, 1, 2, 3])
        worths = [fractions.Fraction(10 ** 30 - 1 - 2 * at, 10 ** 29 + 7 + at * 3) for at in range(4)]
        parts = tuple((worth.numerator, worth.denominator) for worth in worths)
        self.assertEqual(answer(garden, ("worth", "oak", 3, parts)), garden.web("oak").bud(3).worth(list(parts)))


if __name__ == "__main__":
    unittest.main()
