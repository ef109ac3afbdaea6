"""What refuses arguments in the order of point 4: the list itself, its length, then each thing in it."""

from oncedone.errors import NoThing, TooMany, Wrong
from oncedone.words import is_whole

# No plan has more places, and no list of places that is handed in is longer.
MOST = 400


def is_below(thing, many):
    return is_whole(thing) and 0 <= thing < many


def check_length(things, at, least):
    if not isinstance(things, list) or len(things) < least:
        raise Wrong(at)
    if len(things) > MOST:
        raise TooMany(MOST)


def check_each(rights):
    for k, right in enumerate(rights):
        if not right:
            raise NoThing(k)
