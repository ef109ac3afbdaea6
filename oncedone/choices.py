"""Choices: a deed put off from its brinks on as far as it may, and where that puts it in and leaves it out."""

from oncedone.brinks import Brinks
from oncedone.checks import check_each, check_length, is_below
from oncedone.deeds import does
from oncedone.errors import Wrong
from oncedone.plans import FIRST_STEP, Plan
from oncedone.words import is_deed


def marked(things):
    return dict([(thing, True) for thing in things])


def check_held(plan, held, at):
    if held is not None:
        check_length(held, at, 0)
        check_each([is_below(place, len(plan.rows)) for place in held])


def unwaiting_places(plan, deed, brinks, held):
    # Only what must fall away does: so a loop at no place of which anything forbids it goes on waiting.
    fallen = marked(held)
    for step in plan.steps():
        if step not in brinks and (step == FIRST_STEP or does(plan.rows[step[0]], deed)):
            fallen[plan.leads_to(step)] = True
    order = list(fallen)
    done = 0
    while done < len(order):
        place = order[done]
        done += 1
        for at, target in enumerate(plan.nexts[place]):
            if (place, at) not in brinks and target not in fallen:
                fallen[target] = True
                order.append(target)
    return fallen


def places_alive_behind(plan, puts, outs, stays):
    found = {}
    order = list(outs)
    done = 0
    while done < len(order):
        here = order[done]
        done += 1
        for step in plan.steps_into(here):
            place = step[0]
            if step != FIRST_STEP and step not in puts and place not in found:
                found[place] = True
                if place not in stays:
                    order.append(place)
    return found


class Choice:
    def __init__(self, plan, deed, held=None):
        if not isinstance(plan, Plan):
            raise Wrong(0)
        if not is_deed(deed):
            raise Wrong(1)
        check_held(plan, held, 2)
        self.plan = plan
        self.deed = deed
        self.brinks = marked(Brinks(plan, deed).steps())
        self.fallen = unwaiting_places(plan, deed, self.brinks, [] if held is None else held)
        doing = [place for place, row in enumerate(plan.rows) if does(row, deed)]
        self.put_in = marked([step for step in plan.steps() if self.is_put(step)])
        self.left_out = marked([place for place in doing if not self.waits_at(place)])
        self.left_in = marked([place for place in doing if self.waits_at(place)])
        self.living = places_alive_behind(plan, self.put_in, self.left_out, self.left_in)

    def waits_at(self, place):
        return place not in self.fallen

    def waits_on(self, step):
        if step in self.brinks:
            return True
        return step != FIRST_STEP and self.waits_at(step[0]) and not does(self.plan.rows[step[0]], self.deed)

    def is_put(self, step):
        return self.waits_on(step) and not self.waits_at(self.plan.leads_to(step))

    def alive_at(self, place):
        return place in self.left_out or (place not in self.left_in and place in self.living)

    def alive_behind(self, place):
        return place in self.living

    def puts(self):
        return list(self.put_in)

    def outs(self):
        return list(self.left_out)

    def stays(self):
        return list(self.left_in)

    def stores(self):
        return [place for place in self.left_in if place in self.living]
