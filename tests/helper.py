"""What several test files need: many small plans, long ones, and the document's words walked way by way.

Nothing here asks the program but to make plans, so that its answers are held against another reckoning.
"""

from oncedone.errors import OnceError
from oncedone.plans import Plan

FIRST = (-1, 0)
DEED = ("plus", "a", "b")
SKIP = ("skip",)
ASK = ("ask", "q")
DO = ("set", "x", DEED)
DO_AND_SPOIL = ("set", "a", DEED)
SPOIL = ("take", "b")

# Things that are no lists, no tuples of the right form and no whole numbers.
NO_LISTS = [None, True, False, 0, 1, -1, "", "a", "ab", (), (0,), ((),), {}, {0: 0}, {"a": []}]
NO_PLACES = [None, True, False, "", "0", "a", (), (0,), [], [0], {}, -1, -2, 10 ** 12, -(10 ** 12)]


class Dice:
    """The same numbers on each run and with each Python."""

    def __init__(self, seed):
        self.state = seed

    def below(self, bound):
        self.state = (self.state * 6364136223846793005 + 1442695040888963407) % 2 ** 64
        return (self.state >> 33) % bound

    def one_of(self, things):
        return things[self.below(len(things))]


def refusal(call, *given, **named):
    """The class and the number of the refusal; None where nothing is refused."""
    try:
        call(*given, **named)
    except OnceError as error:
        return (type(error), getattr(error, "at", getattr(error, "most", None)))
    return None


ROW_POOL = (
    DO, DO, DO, DO_AND_SPOIL, ("set", "b", ("times", "a", "b")), ("set", "y", ("plus", "b", "a")), SPOIL,
    ("copy", "a", 3), ("copy", "z", "a"), SKIP, SKIP, ("tell", "x"), ASK, ASK, ASK, ASK, ("ask", 0),
)

# What is asked is taken in or reckoned, so that runs go all ways, and some names are those that shelves would have.
RUN_POOL = (
    DO, DO, DO_AND_SPOIL, ("set", "k0", DEED), ("set", "x", ("less", "a", 3)), ("set", "y", ("less", "a", 3)),
    ("set", "b", ("minus", "a", "k2")), ("copy", "a", "k0"), ("copy", "k2", 2), ("take", "a"), ("take", "q"), SPOIL,
    SKIP, ("tell", "x"), ("tell", "k0"), ("tell", "b"), ASK, ASK, ("ask", "x"), ("ask", "a"), ("ask", "b"),
)

# Copies, and what breaks them.
COPY_POOL = (
    ("copy", "a", "b"), ("copy", "a", "b"), ("copy", "a", 5), ("copy", "b", "a"), ("copy", "b", 5), ("copy", "c", "a"),
    ("copy", "a", "a"), ("copy", "x", "c"), ("copy", "q", "b"), ("copy", "k0", "a"), ("take", "b"), ("take", "q"),
    ("set", "a", ("plus", "a", "b")), ("set", "x", ("plus", "c", "b")), ("set", "c", ("less", "k0", "a")), SKIP, SKIP,
    ("tell", "a"), ("tell", "c"), ("tell", "x"), ASK, ASK, ASK, ("ask", "a"), ("ask", "b"),
)


def thrown_nets(dice, many, pool):
    """Rows and nexts that have the right form; whether they make a plan is another matter."""
    rows = [dice.one_of(pool) for place in range(many)]
    nexts = []
    for row in rows:
        width = 2 if row[0] == "ask" else (0 if dice.below(many + 1) == 0 else 1)
        nexts.append([dice.below(many) for at in range(width)])
    return rows, nexts


def small_plans(seed, many, most_places, pool=ROW_POOL):
    """As many plans of each number of places."""
    dice = Dice(seed)
    plans = []
    for k in range(many):
        rows, nexts = thrown_nets(dice, 1 + k % most_places, pool)
        while refusal(Plan, rows, nexts) is not None:
            rows, nexts = thrown_nets(dice, 1 + k % most_places, pool)
        plans.append(Plan(rows, nexts))
    return plans


def shuffled(dice, things):
    left = list(things)
    return [left.pop(dice.below(len(left))) for thing in things]


def renumbered(dice, rows, nexts):
    """The same net with all places but place 0 numbered otherwise, and the old number of each."""
    order = [0] + shuffled(dice, range(1, len(rows)))
    return [rows[place] for place in order], [[order.index(place) for place in nexts[old]] for old in order], order


def grown_plans(seed, many, most_places, pool=ROW_POOL):
    """Greater plans: each place leads to the next one, rows that ask to any place too; then numbered otherwise."""
    dice = Dice(seed)
    plans = []
    for k in range(many):
        places = 2 + k % (most_places - 1)
        rows = [dice.one_of(pool) for place in range(places - 1)] + [SKIP]
        nexts = []
        for place, row in enumerate(rows):
            on = [] if place + 1 == places else [place + 1]
            nexts.append(shuffled(dice, on + [dice.below(places)]) if row[0] == "ask" else on)
        plans.append(Plan(*renumbered(dice, rows, nexts)[:2]))
    return plans


def chain(rows):
    """A plan of these rows one behind another, numbered as they come."""
    return Plan(rows, [[place + 1] for place in range(len(rows) - 1)] + [[]])


def backward_chain(rows):
    """The same rows one behind another, but all places behind place 0 numbered from the end."""
    last = len(rows) - 1
    turned = [rows[0]] + list(reversed(rows[1:]))
    nexts = [[last] if last else []] + [[] if place == 1 else [place - 1] for place in range(1, len(rows))]
    return Plan(turned, nexts)


def ring(rows):
    """A row that asks, these rows behind it, and from the last one back to it; the asking row may leave to a stop."""
    stop = len(rows) + 1
    nexts = [[1, stop]] + [[place + 1] for place in range(1, len(rows))] + [[0], []]
    return Plan([ASK] + list(rows) + [SKIP], nexts)


def does(row, deed):
    return row[0] == "set" and row[2] == deed


def spoils(row, deed):
    return row[0] in ("set", "copy", "take") and row[1] in (deed[1], deed[2])


def all_steps(plan):
    return [FIRST] + [(place, at) for place in range(len(plan.rows)) for at in range(len(plan.nexts[place]))]


def led(plan, step):
    return 0 if step == FIRST else plan.nexts[step[0]][step[1]]


def is_stop(plan, place):
    return len(plan.nexts[place]) == 0


def lengthened(plan, ways, most):
    """The ways handed in, and all that go on from them, of at most so many steps."""
    found = list(ways)
    rim = list(ways)
    while rim:
        rim = [
            way + [(led(plan, way[-1]), at)]
            for way in rim if len(way) < most for at in range(len(plan.nexts[led(plan, way[-1])]))
        ]
        found.extend(rim)
    return found


def bound(plan):
    """What isn't so on every way isn't so on one of at most so many steps: up to a place, and on from it."""
    return 2 * len(plan.rows) + 1


def ways_from_first(plan):
    return lengthened(plan, [[FIRST]], bound(plan))


def whole_ways(plan):
    return [way for way in ways_from_first(plan) if is_stop(plan, led(plan, way[-1]))]


def ways_on(plan, place):
    """All ways on of one step or more, to wherever."""
    return lengthened(plan, [[(place, at)] for at in range(len(plan.nexts[place]))], bound(plan))


def whole_ways_on(plan, place):
    if is_stop(plan, place):
        return [[]]
    return [way for way in ways_on(plan, place) if is_stop(plan, led(plan, way[-1]))]


def walked(plan, way):
    return [led(plan, step) for step in way]


def rows_along(plan, places):
    return [plan.rows[place] for place in places]


def goes(plan, way):
    """Whether these are steps of the plan, each beginning where the one ahead leads."""
    steps = all_steps(plan)
    return all(step in steps for step in way) and all(
        led(plan, way[k]) == way[k + 1][0] for k in range(len(way) - 1)
    )


def ready_after(rows, deed):
    """Point 13 of one way: the rows ahead, in order."""
    return any(
        does(row, deed) and not any(spoils(later, deed) for later in rows[k:]) for k, row in enumerate(rows)
    )


def wanted_before(rows, deed):
    """Point 14 of one way: the rows to come, in order."""
    return any(
        does(row, deed) and not any(spoils(sooner, deed) for sooner in rows[:k]) for k, row in enumerate(rows)
    )


def ready_tables(plan, deed):
    """Whether the deed is ready at and behind each place, by walking all ways of the bound."""
    ready_at = [True] * len(plan.rows)
    ready_behind = [True] * len(plan.rows)
    for way in ways_from_first(plan):
        places = walked(plan, way)
        rows = rows_along(plan, places)
        if not ready_after(rows[:-1], deed):
            ready_at[places[-1]] = False
        if not ready_after(rows, deed):
            ready_behind[places[-1]] = False
    return ready_at, ready_behind


def wanted_tables(plan, deed):
    """Whether the deed is wanted at and behind each place, by walking all whole ways on of the bound."""
    wanted_at = []
    wanted_behind = []
    for place in range(len(plan.rows)):
        to_come = [rows_along(plan, walked(plan, way)) for way in whole_ways_on(plan, place)]
        wanted_at.append(all(wanted_before([plan.rows[place]] + rows, deed) for rows in to_come))
        wanted_behind.append(all(wanted_before(rows, deed) for rows in to_come))
    return wanted_at, wanted_behind


def brink_list(plan, deed):
    """Point 16 by the tables."""
    ready_behind = ready_tables(plan, deed)[1]
    wanted_at, wanted_behind = wanted_tables(plan, deed)
    brinks = []
    for step in all_steps(plan):
        if wanted_at[led(plan, step)]:
            if step == FIRST:
                brinks.append(step)
            elif not ready_behind[step[0]] and (spoils(plan.rows[step[0]], deed) or not wanted_behind[step[0]]):
                brinks.append(step)
    return brinks


def waits_along(plan, deed, brinks, held, way):
    """Point 17 of one way: a brink, and behind it no place that is held, none but the last that does the deed."""
    places = walked(plan, way)
    for k, step in enumerate(way):
        behind = places[k:]
        if step in brinks and not any(place in held for place in behind):
            if not any(does(plan.rows[place], deed) for place in behind[:-1]):
                return True
    return False


class ByHand:
    """Points 17 and 18 by walking all ways of the bound."""

    def __init__(self, plan, deed, held):
        places = range(len(plan.rows))
        brinks = brink_list(plan, deed)
        self.waits = [True for place in places]
        for way in ways_from_first(plan):
            if not waits_along(plan, deed, brinks, held, way):
                self.waits[led(plan, way[-1])] = False
        self.on = {
            step: step in brinks or (step != FIRST and self.waits[step[0]] and not does(plan.rows[step[0]], deed))
            for step in all_steps(plan)
        }
        self.puts = [step for step in all_steps(plan) if self.on[step] and not self.waits[led(plan, step)]]
        self.outs = [place for place in places if does(plan.rows[place], deed) and not self.waits[place]]
        self.stays = [place for place in places if does(plan.rows[place], deed) and self.waits[place]]
        self.behind = [any(self.keeps(plan, way) for way in ways_on(plan, place)) for place in places]
        self.at = [place in self.outs or (place not in self.stays and self.behind[place]) for place in places]
        self.stores = [place for place in self.stays if self.behind[place]]

    def keeps(self, plan, way):
        places = walked(plan, way)
        if places[-1] not in self.outs or any(step in self.puts for step in way):
            return False
        return not any(place in self.stays for place in places)


def helds(plan, dice):
    """Lists of places: none, some, some twice, all, and one."""
    places = list(range(len(plan.rows)))
    some = [place for place in places if dice.below(2)]
    return [[], some, some + some[::-1], places, [dice.one_of(places)]]


def names_of(plan):
    """Point 9: the names that rows set or read."""
    words = []
    for row in plan.rows:
        words.extend([row[1]] + list(row[2][1:]) if row[0] == "set" else row[1:])
    return {word for word in words if isinstance(word, str)}


def deeds_of(plan):
    """Point 9: the deeds in the order of the first place that does each."""
    return list(dict.fromkeys(row[2] for row in plan.rows if row[0] == "set"))


def parts_by_hand(plan, held):
    """For each deed its puts, outs and stores, by walking all ways of the bound."""
    parts = {}
    for deed in deeds_of(plan):
        choice = ByHand(plan, deed, held)
        parts[deed] = (choice.puts, choice.outs, choice.stores)
    return parts


def shelves_by_hand(plan, parts):
    free = iter("k%d" % number for number in range(2000) if "k%d" % number not in names_of(plan))
    return {deed: next(free) for deed, (puts, outs, stores) in parts.items() if puts or stores}


def moved_by_hand(plan, parts):
    """Point 21, in the order in which it tells the places: rows, nexts, origins and shelves."""
    shelves = shelves_by_hand(plan, parts)
    rows, origins = [], []

    def put(step):
        for deed, part in parts.items():
            if step in part[0]:
                rows.append(("set", shelves[deed], deed))
                origins.append(("put", step, deed))

    put(FIRST)
    for place, row in enumerate(plan.rows):
        if row[0] == "set" and place in parts[row[2]][2]:
            rows.append(("set", shelves[row[2]], row[2]))
            origins.append(("store", place, row[2]))
        copied = row[0] == "set" and place in parts[row[2]][1] + parts[row[2]][2]
        rows.append(("copy", row[1], shelves[row[2]]) if copied else row)
        origins.append(("own", place))
        for at in range(len(plan.nexts[place])):
            put((place, at))

    def entered(place):
        # A store's place stands right ahead of the own one.
        own = origins.index(("own", place))
        return own - 1 if own and origins[own - 1][:2] == ("store", place) else own

    def leads(step):
        puts = [k for k, origin in enumerate(origins) if origin[:2] == ("put", step)]
        return puts[0] if puts else entered(led(plan, step))

    nexts = []
    for k, origin in enumerate(origins):
        if origin[0] == "own":
            nexts.append([leads((origin[1], at)) for at in range(len(plan.nexts[origin[1]]))])
        elif origin[0] == "store":
            nexts.append([origins.index(("own", origin[1]))])
        elif k + 1 < len(origins) and origins[k + 1][:2] == origin[:2]:
            nexts.append([k + 1])
        else:
            nexts.append([entered(led(plan, origin[1]))])
    return rows, nexts, origins, shelves
