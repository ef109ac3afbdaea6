"""Ways of a plan: lists of steps, each beginning at the place to which the one ahead leads."""

from oncedone.checks import is_below
from oncedone.plans import FIRST_STEP
from oncedone.words import is_whole


def is_step(plan, thing):
    if not isinstance(thing, tuple) or len(thing) != 2:
        return False
    # Asked ahead of all comparing: a truth equals a whole number, and is none.
    if not is_whole(thing[0]) or not is_whole(thing[1]):
        return False
    if thing == FIRST_STEP:
        return True
    return is_below(thing[0], len(plan.nexts)) and is_below(thing[1], len(plan.nexts[thing[0]]))


def is_way(plan, way):
    if not isinstance(way, list) or len(way) == 0:
        return False
    if not all([is_step(plan, step) for step in way]):
        return False
    return all([plan.leads_to(way[k - 1]) == way[k][0] for k in range(1, len(way))])


def is_whole_way(plan, way):
    if not is_way(plan, way) or way[0] != FIRST_STEP:
        return False
    return len(plan.nexts[plan.leads_to(way[-1])]) == 0


def places_of(plan, way):
    return [plan.leads_to(step) for step in way]


def way_to(plan, place):
    # Places are come to in the order of how many steps they need, so the first coming is a shortest one.
    come_by = {0: FIRST_STEP}
    order = [0]
    done = 0
    while place not in come_by:
        here = order[done]
        done += 1
        for at, target in enumerate(plan.nexts[here]):
            if target not in come_by:
                come_by[target] = (here, at)
                order.append(target)
    return traced(come_by, place)


def traced(come_by, place):
    way = [come_by[place]]
    while way[-1] != FIRST_STEP:
        way.append(come_by[way[-1][0]])
    way.reverse()
    return way


def way_on(plan, place):
    # A stop goes on by no step.
    goes_by = dict([(stop, None) for stop in plan.stops()])
    order = plan.stops()
    done = 0
    while place not in goes_by:
        here = order[done]
        done += 1
        for step in plan.steps_into(here):
            if step != FIRST_STEP and step[0] not in goes_by:
                goes_by[step[0]] = step
                order.append(step[0])
    return followed(plan, goes_by, place)


def followed(plan, goes_by, place):
    way = []
    step = goes_by[place]
    while step is not None:
        way.append(step)
        step = goes_by[plan.leads_to(step)]
    return way
