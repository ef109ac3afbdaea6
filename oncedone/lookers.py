"""Lookers: ways that do a deed twice with nothing between that spoils it, and why a moved plan still has some."""

from oncedone.brinks import Brinks
from oncedone.deeds import does, spoils
from oncedone.ready import pass_on
from oncedone.ways import way_to


def way_between(plan, deed, come_by, place):
    way = [come_by[place]]
    while not does(plan.rows[way[-1][0]], deed):
        way.append(come_by[way[-1][0]])
    way.reverse()
    return way


def twice(plan, deed):
    # The places come to behind a row that does the deed and leaves it whole, each with a step that leads there.
    come_by = {}
    order = []
    for place, row in enumerate(plan.rows):
        if does(row, deed) and not spoils(row, deed):
            pass_on(plan, place, come_by, order)
    done = 0
    while done < len(order):
        place = order[done]
        done += 1
        if does(plan.rows[place], deed):
            way = way_between(plan, deed, come_by, place)
            return way_to(plan, way[0][0]) + way
        if not spoils(plan.rows[place], deed):
            pass_on(plan, place, come_by, order)
    return None


def why_twice(plan, deed):
    way = twice(plan, deed)
    if way is None:
        return None
    brinks = Brinks(plan, deed)
    found = brinks.steps()
    # The way goes straight from one row that does the deed to the next, so its last brink lies between the two.
    last = [step for step in way if step in found][-1]
    why = brinks.why_brink(last)
    return (way, last, why[1], why[2])
