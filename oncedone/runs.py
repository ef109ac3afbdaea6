"""Runs of a plan, and how often a way does each deed."""

from oncedone.deeds import deed_of, set_by, worth, worth_of
from oncedone.plans import FIRST_STEP
from oncedone.ways import places_of


def worth_set(row, store, left):
    if row[0] == "set":
        return worth(row[2], store)
    if row[0] == "copy":
        return worth_of(row[2], store)
    return left.pop() if len(left) > 0 else 0


def step_behind(place, row, store):
    if row[0] == "ask" and worth_of(row[1], store) == 0:
        return (place, 1)
    return (place, 0)


def run(plan, start, taken, most):
    store = dict(start)
    # Turned round, so that the next value is the last one, which pop takes.
    left = list(reversed(taken))
    told = []
    way = []
    step = FIRST_STEP
    ended = False
    while len(way) < most and not ended:
        way.append(step)
        place = plan.leads_to(step)
        row = plan.rows[place]
        if set_by(row) is not None:
            store[set_by(row)] = worth_set(row, store, left)
        elif row[0] == "tell":
            told.append(worth_of(row[1], store))
        ended = len(plan.nexts[place]) == 0
        step = step_behind(place, row, store)
    return (told, way, store, ended)


def counts(plan, way):
    many = dict([(deed, 0) for deed in plan.deeds()])
    for place in places_of(plan, way):
        deed = deed_of(plan.rows[place])
        if deed is not None:
            many[deed] += 1
    return many
