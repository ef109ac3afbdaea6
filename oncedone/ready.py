"""Where a deed is ready: done on each way that leads there, and not spoilt since."""

from oncedone.deeds import does, spoils
from oncedone.plans import FIRST_STEP
from oncedone.ways import way_to


def pass_on(plan, place, come_by, order):
    for at, target in enumerate(plan.nexts[place]):
        if target not in come_by:
            come_by[target] = (place, at)
            order.append(target)


def unready_steps(plan, made, broken):
    # By what the rows make ready and break, place by place: the places at which it isn't ready, each with a step on
    # which it isn't ready and that leads there.
    come_by = {0: FIRST_STEP}
    order = [0]
    for place in range(len(plan.rows)):
        if broken[place]:
            pass_on(plan, place, come_by, order)
    done = 0
    while done < len(order):
        place = order[done]
        done += 1
        if not made[place]:
            pass_on(plan, place, come_by, order)
    return come_by


class Ready:
    def __init__(self, plan, deed):
        self.plan = plan
        self.deed = deed
        made = [does(row, deed) for row in plan.rows]
        self.come_by = unready_steps(plan, made, [spoils(row, deed) for row in plan.rows])

    def ready_at(self, place):
        return place not in self.come_by

    def ready_behind(self, place):
        row = self.plan.rows[place]
        if spoils(row, self.deed):
            return False
        return does(row, self.deed) or self.ready_at(place)

    def ready_on(self, step):
        return step != FIRST_STEP and self.ready_behind(step[0])

    def begins_unready(self, step):
        return step == FIRST_STEP or spoils(self.plan.rows[step[0]], self.deed)

    def way_unready(self, place):
        if self.ready_at(place):
            return None
        way = [self.come_by[place]]
        while not self.begins_unready(way[-1]):
            way.append(self.come_by[way[-1][0]])
        way.reverse()
        if way[0] == FIRST_STEP:
            return way
        # Behind a row that spoils the deed it isn't ready, however that row was come to.
        return way_to(self.plan, way[0][0]) + way
