"""The moved plan: deeds put in on steps, left out of rows, and their worths kept on shelves."""

from oncedone.choices import Choice, check_held, marked
from oncedone.errors import Wrong
from oncedone.plans import FIRST_STEP, Plan
from oncedone.shelves import shelves_for


def deeds_put_on(choices):
    found = {}
    for deed, choice in choices.items():
        for step in choice.puts():
            found.setdefault(step, []).append(deed)
    return found


def deeds_stored_at(choices):
    found = {}
    for deed, choice in choices.items():
        for place in choice.stores():
            found[place] = deed
    return found


def places_copied_at(choices):
    found = []
    for choice in choices.values():
        found.extend(choice.outs() + choice.stores())
    return marked(found)


def puts_on(put_on, step):
    return [("put", step, deed) for deed in put_on.get(step, [])]


def entrance(stored, place):
    return ("store", place, stored[place]) if place in stored else ("own", place)


def origins_of(plan, put_on, stored):
    origins = puts_on(put_on, FIRST_STEP)
    for place, following in enumerate(plan.nexts):
        if place in stored:
            origins.append(entrance(stored, place))
        origins.append(("own", place))
        for at in range(len(following)):
            origins.extend(puts_on(put_on, (place, at)))
    return origins


def origins_behind(plan, put_on, stored):
    # For each origin those to which its place leads: the numbers of the places are found when all are known.
    behind = dict([(("own", place), []) for place in range(len(plan.rows))])
    for place in stored:
        behind[entrance(stored, place)] = [("own", place)]
    for step in plan.steps():
        passed = puts_on(put_on, step) + [entrance(stored, plan.leads_to(step))]
        if step != FIRST_STEP:
            behind[("own", step[0])].append(passed[0])
        for k in range(1, len(passed)):
            behind[passed[k - 1]] = [passed[k]]
    return behind


def nexts_of(origins, behind):
    numbers = dict([(origin, k) for k, origin in enumerate(origins)])
    nexts = []
    for origin in origins:
        nexts.append([numbers[target] for target in behind[origin]])
    return nexts


def row_of(plan, copied, shelves, origin):
    if origin[0] != "own":
        return ("set", shelves[origin[2]], origin[2])
    row = plan.rows[origin[1]]
    if origin[1] in copied:
        return ("copy", row[1], shelves[row[2]])
    return row


class Moved:
    def __init__(self, plan, held=None):
        if not isinstance(plan, Plan):
            raise Wrong(0)
        check_held(plan, held, 1)
        self.lay_out(plan, dict([(deed, Choice(plan, deed, held)) for deed in plan.deeds()]))

    def lay_out(self, plan, choices):
        put_on = deeds_put_on(choices)
        stored = deeds_stored_at(choices)
        copied = places_copied_at(choices)
        shelved = [deed for deed, choice in choices.items() if len(choice.puts() + choice.stores()) > 0]
        self.old = plan
        self.shelves = shelves_for(plan, shelved)
        self.origins = origins_of(plan, put_on, stored)
        rows = [row_of(plan, copied, self.shelves, origin) for origin in self.origins]
        # Of too many places this is refused just as point 21 asks.
        self.plan = Plan(rows, nexts_of(self.origins, origins_behind(plan, put_on, stored)))
        self.own_places = [k for k, origin in enumerate(self.origins) if origin[0] == "own"]

    def way_in(self, way):
        found = []
        for step in way:
            found.append(step if step == FIRST_STEP else (self.own_places[step[0]], step[1]))
            place = self.plan.leads_to(found[-1])
            while self.origins[place][0] != "own":
                found.append((place, 0))
                place = self.plan.nexts[place][0]
        return found

    def way_back(self, way):
        found = []
        for step in way:
            if step == FIRST_STEP:
                found.append(step)
            elif self.origins[step[0]][0] == "own":
                found.append((self.origins[step[0]][1], step[1]))
        return found


def moved(plan, held=None):
    return Moved(plan, held)


def moved_by(plan, choices):
    # Whoever has the choices at hand needn't have them reckoned again: those of the barest plan are none.
    told = Moved(Plan([("skip",)], [[]]))
    told.lay_out(plan, choices)
    return told
