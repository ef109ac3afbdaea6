"""Point 26: names that stand for operands, and the forwarded plan. Point 3 for these."""

import copy
import unittest

from oncedone.copies import forwarded, stands_for
from oncedone.plans import Plan
from oncedone.runs import run
from tests.helper import ASK, COPY_POOL, SKIP, Dice, all_steps, backward_chain, chain, grown_plans, names_of, ring
from tests.helper import rows_along, small_plans, walked, ways_from_first

NAMES = ("a", "b", "c", "q", "x", "k0", "none")


def name_set(row):
    return row[1] if row[0] in ("set", "copy", "take") else None


def stands_along(rows, name):
    """Point 26 of one way: the rows ahead, in order; None where the name stands for nothing."""
    settings = [k for k, row in enumerate(rows) if name_set(row) == name]
    if not settings:
        return None
    last = rows[settings[-1]]
    if last[0] != "copy" or last[2] == name:
        return None
    if any(name_set(row) == last[2] for row in rows[settings[-1] + 1:]):
        return None
    return last[2]


def stands_by_walking(plan, name):
    """For each place what stands_along tells of all ways of the bound to it."""
    found = [[] for row in plan.rows]
    for way in ways_from_first(plan):
        places = walked(plan, way)
        found[places[-1]].append(stands_along(rows_along(plan, places[:-1]), name))
    return [told[0] if len(set(told)) == 1 else None for told in found]


def stands_by_marks(plan, name):
    """The same by walking places with a mark of what the name stands for: for plans with too many ways."""
    marks = [set() for row in plan.rows]
    rim = [(0, None)]
    while rim:
        place, mark = rim.pop()
        if mark in marks[place]:
            continue
        marks[place].add(mark)
        row = plan.rows[place]
        if name_set(row) == name:
            mark = row[2] if row[0] == "copy" and row[2] != name else None
        elif name_set(row) is not None and name_set(row) == mark:
            mark = None
        rim.extend((target, mark) for target in plan.nexts[place])
    return [list(told)[0] if len(told) == 1 else None for told in marks]


def forwarded_by_hand(plan):
    stands = {name: stands_by_marks(plan, name) for name in names_of(plan)}
    rows = []
    for place, row in enumerate(plan.rows):
        def read(operand):
            there = stands[operand][place] if isinstance(operand, str) else None
            return operand if there is None else there
        if row[0] == "set":
            kind, one, other = row[2]
            row = ("set", row[1], (kind, read(one), read(other)))
        elif row[0] == "copy":
            row = ("copy", row[1], read(row[2]))
        elif row[0] in ("ask", "tell"):
            row = (row[0], read(row[1]))
        rows.append(row)
    return rows


class StandsFor(unittest.TestCase):
    def along(self, rows, name="a"):
        """What the name stands for at each place of a chain of these rows and one more."""
        plan = chain(list(rows) + [SKIP])
        return [stands_for(plan, place, name) for place in range(len(rows) + 1)]

    def test_a_copy_of_a_value(self):
        self.assertEqual(self.along([("copy", "a", 5), SKIP, SKIP]), [None, 5, 5, 5])
        self.assertEqual(self.along([SKIP, ("copy", "a", 0), SKIP]), [None, None, 0, 0])
        self.assertEqual(self.along([("copy", "a", 10 ** 12 - 1)]), [None, 10 ** 12 - 1])

    def test_a_copy_of_a_name(self):
        self.assertEqual(self.along([("copy", "a", "b"), SKIP, ("tell", "a")]), [None, "b", "b", "b"])
        self.assertEqual(self.along([("copy", "a", "b"), SKIP], "b"), [None, None, None])

    def test_a_copy_of_the_name_itself(self):
        self.assertEqual(self.along([("copy", "a", "a"), SKIP]), [None, None, None])
        self.assertEqual(self.along([("copy", "a", "b"), ("copy", "a", "a"), SKIP]), [None, "b", None, None])
        self.assertEqual(self.along([("copy", "a", "b"), ("copy", "b", "b"), SKIP]), [None, "b", None, None])
        self.assertEqual(self.along([("copy", "a", "a"), ("copy", "a", 1)]), [None, None, 1])

    def test_chains_of_copies_are_not_looked_at_again(self):
        rows = [("copy", "a", 5), ("copy", "b", "a"), ("copy", "c", "b")]
        self.assertEqual(self.along(rows, "c"), [None, None, None, "b"])
        self.assertEqual(self.along(rows, "b"), [None, None, "a", "a"])
        self.assertEqual(self.along(rows, "a"), [None, 5, 5, 5])

    def test_the_operand_set_behind_the_copy(self):
        for row in (("set", "b", ("plus", 1, 2)), ("set", "b", ("plus", "b", 0)), ("copy", "b", 5), ("copy", "b", "a"),
                    ("copy", "b", "b"), ("take", "b")):
            self.assertEqual(self.along([("copy", "a", "b"), SKIP, row, SKIP]), [None, "b", "b", None, None])
            # What comes ahead of the copy doesn't count.
            self.assertEqual(self.along([row, ("copy", "a", "b"), SKIP]), [None, None, "b", "b"])
        for row in (("tell", "b"), SKIP, ("take", "c"), ("set", "c", ("plus", "a", "b")), ("copy", "c", "b")):
            self.assertEqual(self.along([("copy", "a", "b"), row, SKIP]), [None, "b", "b", "b"])

    def test_the_name_set_behind_the_copy(self):
        for row in (("set", "a", ("plus", 1, 2)), ("set", "a", ("plus", "a", "b")), ("take", "a"), ("copy", "a", "a")):
            self.assertEqual(self.along([("copy", "a", "b"), row, SKIP]), [None, "b", None, None])
            self.assertEqual(self.along([("copy", "a", 7), SKIP, row, SKIP]), [None, 7, 7, None, None])
        self.assertEqual(self.along([("copy", "a", "b"), ("copy", "a", "c"), SKIP]), [None, "b", "c", "c"])
        self.assertEqual(self.along([("copy", "a", "b"), ("copy", "a", 1), SKIP]), [None, "b", 1, 1])
        self.assertEqual(self.along([("copy", "a", "b"), ("copy", "a", "b"), SKIP]), [None, "b", "b", "b"])
        self.assertEqual(self.along([("copy", "a", "b"), ("take", "b"), ("copy", "a", "b")]), [None, "b", None, "b"])

    def test_other_rows_that_set_nothing_of_it(self):
        for row in (SKIP, ("tell", "a"), ("tell", 1), ("take", "x"), ("set", "x", ("plus", "a", "a")),
                    ("copy", "x", 2)):
            self.assertEqual(self.along([("copy", "a", "b"), row]), [None, "b", "b"])

    def test_ways_that_come_together(self):
        for one, other, told in (
            (("copy", "a", 5), ("copy", "a", 5), 5), (("copy", "a", "b"), ("copy", "a", "b"), "b"),
            (("copy", "a", 5), ("copy", "a", 6), None), (("copy", "a", "b"), ("copy", "a", 5), None),
            (("copy", "a", "b"), ("copy", "a", "c"), None), (("copy", "a", "b"), SKIP, None),
            (SKIP, ("copy", "a", "b"), None), (("copy", "a", "b"), ("take", "a"), None),
            (("copy", "a", "b"), ("copy", "a", "a"), None), (("copy", "a", 0), ("copy", "a", 1), None),
        ):
            plan = Plan([ASK, one, other, SKIP, SKIP], [[1, 2], [3], [3], [4], []])
            self.assertEqual([stands_for(plan, place, "a") for place in (0, 1, 2, 3, 4)], [None] * 3 + [told] * 2)

    def test_a_place_to_which_one_way_comes_without_a_copy(self):
        plan = Plan([ASK, ("copy", "a", 5), SKIP], [[1, 2], [2], []])
        self.assertIsNone(stands_for(plan, 2, "a"))

    def test_set_ahead_of_the_parting_of_the_ways(self):
        plan = Plan([("copy", "a", "b"), ASK, SKIP, ("take", "b"), SKIP], [[1], [2, 3], [4], [4], []])
        self.assertEqual([stands_for(plan, place, "a") for place in range(5)], [None, "b", "b", "b", None])

    def test_loops(self):
        plan = Plan([("copy", "a", "b"), ASK, SKIP, SKIP], [[1], [2, 3], [1], []])
        self.assertEqual([stands_for(plan, place, "a") for place in range(4)], [None, "b", "b", "b"])
        plan = Plan([("copy", "a", "b"), ASK, ("take", "b"), SKIP], [[1], [2, 3], [1], []])
        self.assertEqual([stands_for(plan, place, "a") for place in range(4)], [None, None, None, None])
        plan = Plan([SKIP, ASK, ("copy", "a", "b"), SKIP], [[1], [2, 3], [1], []])
        self.assertEqual([stands_for(plan, place, "a") for place in range(4)], [None, None, None, None])
        plan = Plan([("copy", "a", 1), ASK, ("copy", "a", 1), SKIP], [[1], [2, 3], [1], []])
        self.assertEqual([stands_for(plan, place, "a") for place in range(4)], [None, 1, 1, 1])
        plan = Plan([("copy", "a", 1), ASK, ("copy", "a", 2), SKIP], [[1], [2, 3], [1], []])
        self.assertEqual([stands_for(plan, place, "a") for place in range(4)], [None, None, None, None])

    def test_place_0_with_steps_that_lead_back(self):
        plan = Plan([SKIP, ("copy", "a", 5), ASK, SKIP], [[1], [2], [0, 3], []])
        self.assertEqual([stands_for(plan, place, "a") for place in range(4)], [None, None, 5, 5])

    def test_none(self):
        plan = chain([("copy", "a", "b"), ("set", "c", ("plus", "a", 1)), ("take", "x")])
        for name in ("b", "c", "x", "none", "copy", "plus"):
            for place in range(3):
                self.assertIsNone(stands_for(plan, place, name))

    def test_names_that_are_words_of_rows(self):
        self.assertEqual(self.along([("copy", "copy", "set"), SKIP], "copy"), [None, "set", "set"])
        self.assertEqual(self.along([("copy", "a", "copy"), ("take", "b"), SKIP]), [None, "copy", "copy", "copy"])
        self.assertEqual(self.along([("copy", "a", "b"), ("take", "copy"), SKIP]), [None, "b", "b", "b"])

    def test_small_plans(self):
        told = {}
        for plan in small_plans(501, 600, 5, COPY_POOL):
            for name in NAMES:
                wanted = stands_by_walking(plan, name)
                self.assertEqual(stands_by_marks(plan, name), wanted)
                with self.subTest(rows=plan.rows, nexts=plan.nexts, name=name):
                    here = [stands_for(plan, place, name) for place in range(len(plan.rows))]
                    self.assertEqual(here, wanted)
                for thing in here:
                    told[type(thing)] = told.get(type(thing), 0) + 1
        self.assertGreater(min(told[int], told[str]), 40)

    def test_greater_plans(self):
        for plan in grown_plans(502, 60, 25, COPY_POOL):
            for name in NAMES:
                wanted = stands_by_marks(plan, name)
                self.assertEqual([stands_for(plan, place, name) for place in range(len(plan.rows))], wanted)

    def test_long(self):
        for make in (chain, backward_chain):
            plan = make([("copy", "a", "b")] + [SKIP] * 398 + [("tell", "a")])
            order = list(range(400)) if make == chain else [0] + list(range(399, 0, -1))
            self.assertEqual(stands_for(plan, order[399], "a"), "b")
            self.assertEqual(stands_for(plan, order[1], "a"), "b")
            self.assertIsNone(stands_for(plan, 0, "a"))
        plan = ring([("copy", "a", "b")] + [SKIP] * 396 + [("tell", "a")])
        self.assertEqual(stands_for(plan, 398, "a"), "b")
        self.assertIsNone(stands_for(plan, 0, "a"))


class Forwarded(unittest.TestCase):
    def check(self, rows, wanted):
        plan = chain(rows)
        told = forwarded(plan)
        self.assertIs(type(told), Plan)
        self.assertEqual(told.rows, wanted)
        self.assertEqual(told.nexts, plan.nexts)

    def test_rows_of_all_kinds(self):
        for operand in ("b", 7, 0):
            for row, wanted in (
                (("set", "x", ("plus", "a", 1)), ("set", "x", ("plus", operand, 1))),
                (("set", "x", ("minus", 1, "a")), ("set", "x", ("minus", 1, operand))),
                (("set", "x", ("times", "a", "a")), ("set", "x", ("times", operand, operand))),
                (("set", "x", ("less", "c", "a")), ("set", "x", ("less", "c", operand))),
                (("set", "a", ("same", "a", "q")), ("set", "a", ("same", operand, "q"))),
                (("copy", "x", "a"), ("copy", "x", operand)), (("copy", "a", "a"), ("copy", "a", operand)),
                (("take", "a"), ("take", "a")), (("take", "x"), ("take", "x")),
                (("tell", "a"), ("tell", operand)), (("tell", "x"), ("tell", "x")), (("tell", 3), ("tell", 3)),
                (SKIP, SKIP),
                (("copy", "x", 4), ("copy", "x", 4)), (("set", "x", ("plus", 1, 2)), ("set", "x", ("plus", 1, 2))),
            ):
                self.check([("copy", "a", operand), row], [("copy", "a", operand), wanted])
            plan = Plan([("copy", "a", operand), ("ask", "a"), ("ask", "q"), SKIP], [[1], [2, 3], [3, 0], []])
            told = forwarded(plan)
            self.assertEqual(told.rows, [("copy", "a", operand), ("ask", operand), ("ask", "q"), SKIP])
            self.assertEqual(told.nexts, plan.nexts)

    def test_it_is_not_looked_at_again(self):
        rows = [("copy", "a", 5), ("copy", "b", "a"), ("copy", "c", "b"), ("tell", "c")]
        self.check(rows, [("copy", "a", 5), ("copy", "b", 5), ("copy", "c", "a"), ("tell", "b")])

    def test_a_row_may_come_to_copy_a_name_to_itself(self):
        rows = [("copy", "a", "b"), ("copy", "b", "a"), ("tell", "a"), ("tell", "b")]
        self.check(rows, [("copy", "a", "b"), ("copy", "b", "b"), ("tell", "a"), ("tell", "a")])

    def test_each_row_sets_what_it_set(self):
        rows = [("copy", "a", "b"), ("set", "a", ("plus", "a", "a")), ("tell", "a")]
        self.check(rows, [("copy", "a", "b"), ("set", "a", ("plus", "b", "b")), ("tell", "a")])
        rows = [("copy", "a", 1), ("take", "a"), ("tell", "a")]
        self.check(rows, rows)

    def test_a_kind_that_is_a_name(self):
        rows = [("copy", "plus", 9), ("set", "x", ("plus", "plus", "a"))]
        self.check(rows, [("copy", "plus", 9), ("set", "x", ("plus", 9, "a"))])
        rows = [("copy", "tell", 9), ("tell", "tell"), ("copy", "copy", "tell")]
        self.check(rows, [("copy", "tell", 9), ("tell", 9), ("copy", "copy", 9)])

    def test_nothing_stands_for_anything(self):
        rows = [("tell", "a"), ("set", "a", ("plus", "a", 1)), ("copy", "a", "a"), ("tell", "a")]
        self.check(rows, rows)

    def test_small_and_greater_plans(self):
        changed = 0
        for plan in small_plans(511, 200, 5, COPY_POOL) + grown_plans(512, 150, 25, COPY_POOL):
            told = forwarded(plan)
            self.assertEqual(told.rows, forwarded_by_hand(plan))
            self.assertEqual(told.nexts, plan.nexts)
            self.assertEqual([name_set(row) for row in told.rows], [name_set(row) for row in plan.rows])
            changed += told.rows != plan.rows
        self.assertGreater(changed, 100)

    def test_it_agrees_with_stands_for(self):
        for plan in grown_plans(513, 40, 12, COPY_POOL):
            told = forwarded(plan)
            for place, row in enumerate(plan.rows):
                if row[0] in ("tell", "ask") and isinstance(row[1], str):
                    there = stands_for(plan, place, row[1])
                    self.assertEqual(told.rows[place][1], row[1] if there is None else there)

    def test_runs(self):
        dice = Dice(514)
        ended = 0
        for plan in small_plans(514, 150, 5, COPY_POOL) + grown_plans(515, 150, 20, COPY_POOL):
            told = forwarded(plan)
            for turn in range(4):
                start = {name: dice.below(4) for name in NAMES if dice.below(2)}
                taken = [dice.below(4) for k in range(dice.below(9))]
                for most in (0, dice.below(30), 80):
                    old = run(plan, start, taken, most)
                    self.assertEqual(run(told, start, taken, most), old)
                ended += old[3]
        self.assertGreater(ended, 300)

    def test_long(self):
        rows = [("copy", "a", "b")] + [("tell", "a")] * 398 + [("set", "a", ("plus", "a", "a"))]
        wanted = [("copy", "a", "b")] + [("tell", "b")] * 398 + [("set", "a", ("plus", "b", "b"))]
        self.check(rows, wanted)
        names = ["n%d" % number for number in range(400)]
        rows = [("copy", names[0], 3)] + [("copy", names[k], names[k - 1]) for k in range(1, 400)]
        wanted = rows[:1] + [("copy", names[1], 3)] + [("copy", names[k], names[k - 2]) for k in range(2, 400)]
        self.check(rows, wanted)


class Copies(unittest.TestCase):
    def test_the_plan_stays_and_the_told_one_is_another(self):
        for plan in small_plans(521, 60, 5, COPY_POOL):
            before = (list(plan.rows), copy.deepcopy(plan.nexts), plan.steps(), plan.names())
            told = forwarded(plan)
            wanted = (list(told.rows), copy.deepcopy(told.nexts))
            for place in range(len(plan.rows)):
                stands_for(plan, place, "a")
            self.assertEqual((plan.rows, plan.nexts, plan.steps(), plan.names()), before)
            self.assertEqual((all_steps(told), told.steps()), (all_steps(plan), plan.steps()))
            told.rows.clear()
            told.nexts[0].append(9)
            self.assertEqual((plan.rows, plan.nexts, plan.steps(), plan.names()), before)
            again = forwarded(plan)
            self.assertEqual((again.rows, again.nexts), wanted)


if __name__ == "__main__":
    unittest.main()
