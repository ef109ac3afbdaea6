"""Where a deed is wanted: done on each whole way on, and not spoilt ahead of that."""

from oncedone.deeds import does, spoils
from oncedone.plans import FIRST_STEP
from oncedone.ways import followed, way_on


def unwanted_ends(plan, deed):
    ends = []
    for place, row in enumerate(plan.rows):
        if not does(row, deed) and (spoils(row, deed) or len(plan.nexts[place]) == 0):
            ends.append(place)
    return ends


def unwanted_steps(plan, deed):
    # The places at which the deed isn't wanted, each with a step on to another such place; None where the row
    # itself settles it.
    order = unwanted_ends(plan, deed)
    goes_by = dict([(place, None) for place in order])
    done = 0
    while done < len(order):
        here = order[done]
        done += 1
        for step in plan.steps_into(here):
            if step != FIRST_STEP and step[0] not in goes_by and not does(plan.rows[step[0]], deed):
                goes_by[step[0]] = step
                order.append(step[0])
    return goes_by


class Wanted:
    def __init__(self, plan, deed):
        self.plan = plan
        self.goes_by = unwanted_steps(plan, deed)

    def wanted_at(self, place):
        return place not in self.goes_by

    def wanted_behind(self, place):
        following = self.plan.nexts[place]
        return len(following) > 0 and all([self.wanted_at(target) for target in following])

    def wanted_on(self, step):
        return self.wanted_at(self.plan.leads_to(step))

    def way_unwanted(self, place):
        if self.wanted_at(place):
            return None
        way = followed(self.plan, self.goes_by, place)
        last = self.plan.leads_to(way[-1]) if len(way) > 0 else place
        return way + way_on(self.plan, last)
