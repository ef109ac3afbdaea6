"""Copies: names that stand for an operand, and the plan that reads the operand in their place."""

from oncedone.deeds import set_by
from oncedone.plans import Plan
from oncedone.ready import unready_steps


def copies_of(plan):
    # Each copy once; one of a name to itself makes nothing stand for anything.
    found = {}
    for row in plan.rows:
        if row[0] == "copy" and row[1] != row[2]:
            found[row] = True
    return list(found)


def places_without(plan, copying):
    # Where a copy isn't ready, in the sense in which deeds are: it is broken by all else that sets one of both.
    made = [row == copying for row in plan.rows]
    broken = [row != copying and set_by(row) in copying[1:] for row in plan.rows]
    return unready_steps(plan, made, broken)


def stands_for(plan, place, name):
    for copying in copies_of(plan):
        if copying[1] == name and place not in places_without(plan, copying):
            return copying[2]
    return None


def operands_known(plan):
    # For each place the dict of the names that stand for an operand there, and the operands.
    found = [{} for row in plan.rows]
    for copying in copies_of(plan):
        without = places_without(plan, copying)
        for place in range(len(plan.rows)):
            if place not in without:
                found[place][copying[1]] = copying[2]
    return found


def forwarded_row(row, known):
    if row[0] == "set":
        deed = row[2]
        return ("set", row[1], (deed[0], known.get(deed[1], deed[1]), known.get(deed[2], deed[2])))
    if row[0] == "copy":
        return ("copy", row[1], known.get(row[2], row[2]))
    if row[0] in ("tell", "ask"):
        return (row[0], known.get(row[1], row[1]))
    return row


def forwarded(plan):
    known = operands_known(plan)
    return Plan([forwarded_row(row, known[place]) for place, row in enumerate(plan.rows)], plan.nexts)
