"""Brinks: the steps up to which a deed can be put forward, and no further."""

from oncedone.deeds import spoils
from oncedone.plans import FIRST_STEP
from oncedone.ready import Ready
from oncedone.wanted import Wanted


class Brinks:
    def __init__(self, plan, deed):
        self.plan = plan
        self.deed = deed
        self.ready = Ready(plan, deed)
        self.wanted = Wanted(plan, deed)
        self.found = dict([(step, True) for step in plan.steps() if self.is_brink(step)])

    def is_brink(self, step):
        if not self.wanted.wanted_on(step) or self.ready.ready_on(step):
            return False
        return step == FIRST_STEP or self.is_spoilt_ahead(step) or not self.wanted.wanted_behind(step[0])

    def is_spoilt_ahead(self, step):
        return spoils(self.plan.rows[step[0]], self.deed)

    def steps(self):
        return list(self.found)

    def why_brink(self, step):
        if step not in self.found:
            return None
        if step == FIRST_STEP:
            return ("first",)
        place = step[0]
        if self.is_spoilt_ahead(step):
            return ("spoilt", place)
        # The row ahead neither spoils the deed nor does it, so what holds at the place holds behind it, too.
        return ("apart", self.ready.way_unready(place), self.way_unwanted_behind(place))

    def way_unwanted_behind(self, place):
        following = self.plan.nexts[place]
        unwanted = [at for at, target in enumerate(following) if not self.wanted.wanted_at(target)]
        return [(place, unwanted[0])] + self.wanted.way_unwanted(following[unwanted[0]])
