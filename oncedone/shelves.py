"""Shelves: names that a plan hasn't, on which worths of deeds are kept."""


def shelves_for(plan, deeds):
    taken = dict([(name, True) for name in plan.names()])
    shelves = {}
    number = 0
    for deed in deeds:
        while f"k{number}" in taken:
            number += 1
        shelves[deed] = f"k{number}"
        number += 1
    return shelves
