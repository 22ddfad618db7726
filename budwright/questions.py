"""Questions that are asked of webs by names, and their answers."""

from budwright.deeds import web_named
from budwright.errors import BadAsk, BadSum, NoPart, NoPlace, NoWeb
from budwright.kinds import kind

# How many things a question of each first text has, this text among them.
QUESTION_SIZES = {"terms": 3, "worth": 4, "alike": 3, "kind": 2}


def check_question(question):
    """Refuses what has no first text of a question, or another count of things."""
    if not isinstance(question, tuple) or len(question) == 0 or not isinstance(question[0], str):
        raise BadAsk()
    if question[0] not in QUESTION_SIZES or len(question) != QUESTION_SIZES[question[0]]:
        raise BadAsk()


def terms_told(webs, question):
    word, name, place = question
    return len(web_named(webs, name).bud(place))


def worth_told(webs, question):
    word, name, place, parts = question
    return web_named(webs, name).bud(place).worth(parts)


def alike_told(webs, question):
    word, name, other = question
    web = web_named(webs, name)
    return web.alike(web_named(webs, other))


def kind_told(webs, question):
    word, name = question
    return kind(web_named(webs, name).table())[0]


ANSWERS = {"terms": terms_told, "worth": worth_told, "alike": alike_told, "kind": kind_told}


def answer_told(webs, question):
    """The answer, or the refusal's word where it is refused."""
    action = ANSWERS[question[0]]
    try:
        return action(webs, question)
    except (NoWeb, NoPlace, BadSum, NoPart) as refusal:
        return refusal.word
