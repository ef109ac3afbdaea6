"""Plans: nets of places with rows, and the steps between the places."""

from oncedone.checks import check_each, check_length, is_below
from oncedone.deeds import deed_of, reads_of, set_by
from oncedone.errors import NoWay, Wrong
from oncedone.words import is_row

FIRST_STEP = (-1, 0)


def are_nexts(row, following, many):
    if not isinstance(following, list):
        return False
    wanted = (2,) if row[0] == "ask" else (0, 1)
    return len(following) in wanted and all([is_below(place, many) for place in following])


def check_nexts(rows, nexts):
    if not isinstance(nexts, list) or len(nexts) != len(rows):
        raise Wrong(1)
    check_each([are_nexts(row, following, len(rows)) for row, following in zip(rows, nexts)])


def stops_of(nexts):
    return [place for place, following in enumerate(nexts) if len(following) == 0]


def turned(nexts):
    sources = [[] for following in nexts]
    for place, following in enumerate(nexts):
        for target in following:
            sources[target].append(place)
    return sources


def reached(begins, leads):
    seen = {}
    waiting = list(begins)
    while len(waiting) > 0:
        place = waiting.pop()
        if place not in seen:
            seen[place] = True
            waiting.extend(leads[place])
    return seen


def check_ways(nexts):
    begun = reached([0], nexts)
    ending = reached(stops_of(nexts), turned(nexts))
    for place in range(len(nexts)):
        if place not in begun or place not in ending:
            raise NoWay(place)


def steps_of(nexts):
    steps = [FIRST_STEP]
    for place, following in enumerate(nexts):
        steps.extend([(place, at) for at in range(len(following))])
    return steps


class Plan:
    def __init__(self, rows, nexts):
        check_length(rows, 0, 1)
        check_each([is_row(row) for row in rows])
        check_nexts(rows, nexts)
        check_ways(nexts)
        self.rows = list(rows)
        self.nexts = [list(following) for following in nexts]
        # Kept, as all that looks back along the steps asks for it place by place.
        self.entries = [[] for row in rows]
        for step in steps_of(self.nexts):
            self.entries[self.leads_to(step)].append(step)

    def steps(self):
        return steps_of(self.nexts)

    def leads_to(self, step):
        if step == FIRST_STEP:
            return 0
        return self.nexts[step[0]][step[1]]

    def steps_into(self, place):
        return list(self.entries[place])

    def stops(self):
        return stops_of(self.nexts)

    def deeds(self):
        found = {}
        for row in self.rows:
            deed = deed_of(row)
            if deed is not None:
                found[deed] = True
        return list(found)

    def names(self):
        found = []
        for row in self.rows:
            found.extend(reads_of(row))
            if set_by(row) is not None:
                found.append(set_by(row))
        return sorted(set(found))
