"""The judge of drafts: whether what anybody hands in as a moved plan is one that does no harm."""

from oncedone.checks import is_below
from oncedone.deeds import deed_of, set_by, spoils
from oncedone.errors import OnceError
from oncedone.plans import FIRST_STEP, Plan
from oncedone.ready import Ready, unready_steps
from oncedone.wanted import Wanted
from oncedone.ways import is_step
from oncedone.words import is_deed, is_name


def make_plan(rows, nexts):
    try:
        return Plan(rows, nexts)
    except OnceError:
        return None


def is_origin(plan, thing):
    if not isinstance(thing, tuple) or len(thing) not in (2, 3):
        return False
    if len(thing) == 2:
        return thing[0] == "own" and is_below(thing[1], len(plan.rows))
    if thing[0] == "put":
        return is_step(plan, thing[1]) and is_deed(thing[2])
    return thing[0] == "store" and is_below(thing[1], len(plan.rows)) and is_deed(thing[2])


def are_origins(plan, origins, many):
    if not isinstance(origins, list) or len(origins) != many:
        return False
    return all([is_origin(plan, origin) for origin in origins])


def are_shelves(plan, shelves, origins):
    if not isinstance(shelves, dict):
        return False
    # Asked ahead of the next question: only names can be kept in a set.
    if not all([is_deed(deed) and is_name(shelf) for deed, shelf in shelves.items()]):
        return False
    names = list(shelves.values())
    if len(set(names)) < len(names) or any([name in names for name in plan.names()]):
        return False
    return all([origin[2] in shelves for origin in origins if origin[0] != "own"])


def has_form(plan, draft):
    if not isinstance(draft, tuple) or len(draft) != 4:
        return False
    made = make_plan(draft[0], draft[1])
    if made is None or not are_origins(plan, draft[2], len(made.rows)):
        return False
    return are_shelves(plan, draft[3], draft[2])


def places_by(plan, origins, kind):
    # For each old place the list of the draft's places of this kind.
    found = [[] for row in plan.rows]
    for k, origin in enumerate(origins):
        if origin[0] == kind:
            found[origin[1]].append(k)
    return found


def has_width(plan, following, origin):
    return len(following) == (len(plan.nexts[origin[1]]) if origin[0] == "own" else 1)


def place_behind(made, origins, step, begin):
    place = begin
    # It ends: each put has one next place, and from each place of a plan a stop is come to.
    while origins[place][:2] == ("put", step):
        place = made.nexts[place][0]
    return place


def has_net(plan, made, origins):
    owns = places_by(plan, origins, "own")
    stores = places_by(plan, origins, "store")
    if not all([len(own) == 1 and len(store) <= 1 for own, store in zip(owns, stores)]):
        return False
    if not all([has_width(plan, following, origin) for following, origin in zip(made.nexts, origins)]):
        return False
    if not all([made.nexts[store[0]] == own for own, store in zip(owns, stores) if len(store) == 1]):
        return False
    entrances = [(store + own)[0] for own, store in zip(owns, stores)]
    # No put is left over: each place of a plan is come to, and no step passes a put that isn't its own.
    for step in plan.steps():
        begin = 0 if step == FIRST_STEP else made.nexts[owns[step[0]][0]][step[1]]
        if place_behind(made, origins, step, begin) != entrances[plan.leads_to(step)]:
            return False
    return True


def copy_for(row, shelves):
    # The copy that may stand in the place of a row; None where none may.
    deed = deed_of(row)
    return ("copy", set_by(row), shelves[deed]) if deed in shelves else None


def is_copied(plan, made, origins, place):
    return origins[place][0] == "own" and made.rows[place] != plan.rows[origins[place][1]]


def has_row(plan, made, origins, shelves, place):
    origin = origins[place]
    row = made.rows[place]
    if origin[0] != "own":
        return row == ("set", shelves[origin[2]], origin[2])
    return row in (plan.rows[origin[1]], copy_for(plan.rows[origin[1]], shelves))


def has_rows(plan, made, origins, shelves):
    if not all([has_row(plan, made, origins, shelves, place) for place in range(len(origins))]):
        return False
    for place, origin in enumerate(origins):
        if origin[0] == "store":
            if deed_of(plan.rows[origin[1]]) != origin[2]:
                return False
            # A store's place leads to the own one.
            if not is_copied(plan, made, origins, made.nexts[place][0]):
                return False
    return True


def copies_by_deed(plan, made, origins):
    found = {}
    for place, origin in enumerate(origins):
        if is_copied(plan, made, origins, place):
            found.setdefault(deed_of(plan.rows[origin[1]]), []).append(place)
    return found


def has_copies_ready(plan, made, origins, shelves):
    for deed, places in copies_by_deed(plan, made, origins).items():
        # Own rows that do the deed put nothing on its shelf.
        kept = [row == ("set", shelves[deed], deed) for row in made.rows]
        unready = unready_steps(made, kept, [spoils(row, deed) for row in made.rows])
        if any([place in unready for place in places]):
            return False
    return True


def puts_by_deed(origins):
    found = {}
    for origin in origins:
        if origin[0] == "put":
            found.setdefault(origin[2], []).append(origin[1])
    return found


def has_puts_wanted(plan, origins):
    for deed, steps in puts_by_deed(origins).items():
        ready = Ready(plan, deed)
        wanted = Wanted(plan, deed)
        if not all([ready.ready_on(step) or wanted.wanted_on(step) for step in steps]):
            return False
    return True


def fault(plan, draft):
    if not has_form(plan, draft):
        return "form"
    made = Plan(draft[0], draft[1])
    origins = draft[2]
    if not has_net(plan, made, origins):
        return "net"
    if not has_rows(plan, made, origins, draft[3]):
        return "rows"
    if not has_copies_ready(plan, made, origins, draft[3]):
        return "unready"
    return None if has_puts_wanted(plan, origins) else "unwanted"
