"""Plans as texts: each place its row's words, then a ">" and the next places, if there are any."""

from oncedone.errors import NoText, OnceError
from oncedone.plans import Plan
from oncedone.words import BOUND, FIGURES


def words_of(row):
    words = []
    for part in row:
        words.extend(part if isinstance(part, tuple) else [part])
    return words


def shown_place(row, following):
    words = words_of(row)
    if len(following) > 0:
        words.append(">")
        words.extend(following)
    return " ".join([str(word) for word in words])


def shown(plan):
    return "; ".join([shown_place(row, following) for row, following in zip(plan.rows, plan.nexts)])


def thing_of(word):
    # What is longer is no number that a plan has, and Python turns no text of any length into one.
    if 0 < len(word) <= len(str(BOUND)) and all([sign in FIGURES for sign in word]):
        return int(word)
    return word


def row_of(things):
    # Only a row that does a deed has five words; whether it is a row at all is asked of it in a plan.
    if len(things) == 5:
        return (things[0], things[1], tuple(things[2:]))
    return tuple(things)


def plan_of(text):
    rows = []
    nexts = []
    for part in text.split("; "):
        things = [thing_of(word) for word in part.split(" ")]
        end = things.index(">") if ">" in things else len(things)
        rows.append(row_of(things[:end]))
        nexts.append(things[end + 1:])
    try:
        return Plan(rows, nexts)
    except OnceError:
        return None


def read(text):
    if not isinstance(text, str):
        raise NoText()
    plan = plan_of(text)
    # Much that reads alike is shown otherwise: a nought ahead of a number, a ">" with nothing behind it.
    if plan is None or shown(plan) != text:
        raise NoText()
    return plan
