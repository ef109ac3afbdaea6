"""The bench: a plan whose rows are changed, and its moved plan, with those choices kept that no change concerns."""

from oncedone.checks import is_below
from oncedone.choices import Choice
from oncedone.deeds import does, spoils
from oncedone.errors import Wrong
from oncedone.moved import moved_by
from oncedone.plans import Plan
from oncedone.words import is_row


def asks(row):
    return row[0] == "ask"


def concern(plan, deed):
    # All of the rows that the deed's choice hangs on.
    return [(does(row, deed), spoils(row, deed)) for row in plan.rows]


class Bench:
    def __init__(self, plan):
        if not isinstance(plan, Plan):
            raise Wrong(0)
        self.now = plan
        self.kept = {}
        self.fresh = []

    def change(self, place, row):
        rows = list(self.now.rows)
        if not is_below(place, len(rows)):
            raise Wrong(0)
        if not is_row(row) or asks(row) != asks(rows[place]):
            raise Wrong(1)
        rows[place] = row
        self.now = Plan(rows, self.now.nexts)

    def plan_now(self):
        return self.now

    def moved(self):
        kept = dict(self.kept)
        fresh = []
        for deed in self.now.deeds():
            concerned = concern(self.now, deed)
            if deed not in kept or kept[deed][0] != concerned:
                kept[deed] = (concerned, Choice(self.now, deed))
                fresh.append(deed)
        told = moved_by(self.now, dict([(deed, kept[deed][1]) for deed in self.now.deeds()]))
        # Only here: what was reckoned for a moved plan that is refused counts for nothing.
        self.kept = kept
        self.fresh = fresh
        return told

    def anew(self):
        return list(self.fresh)
