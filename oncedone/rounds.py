"""Rounds: copies forwarded and deeds moved by turns, until nothing changes."""

from oncedone.copies import forwarded
from oncedone.moved import moved


def settled(plan, most):
    last = plan
    for many in range(most):
        told = moved(forwarded(last)).plan
        if told.rows == last.rows and told.nexts == last.nexts:
            return (told, many, True)
        last = told
    return (last, most, False)
