"""Point 25: ways that do a deed twice, and why. Points 3 and 5 for these."""

import copy
import unittest

from oncedone.brinks import Brinks
from oncedone.lookers import twice, why_twice
from oncedone.moved import moved
from oncedone.plans import Plan
from tests.helper import ASK, DEED, DO, DO_AND_SPOIL, FIRST, RUN_POOL, SKIP, SPOIL, Dice, backward_chain, brink_list
from tests.helper import chain, deeds_of, does, goes, grown_plans, helds, is_stop, led, ready_after, ring, rows_along
from tests.helper import small_plans, spoils, walked, wanted_before, ways_from_first

DEEDS = (DEED, ("plus", "b", "a"), ("times", "a", "b"), ("same", 1, 2))
AGAIN = ("set", "y", DEED)


def does_twice(plan, deed, way):
    """The last row on the way does the deed, and one ahead does, neither that one nor one between spoiling it."""
    rows = rows_along(plan, walked(plan, way))
    if not does(rows[-1], deed):
        return False
    for k, row in enumerate(rows[:-1]):
        if does(row, deed) and not any(spoils(between, deed) for between in rows[k:-1]):
            return True
    return False


class Twice(unittest.TestCase):
    def check_way(self, plan, deed, way):
        self.assertIs(type(way), list)
        self.assertEqual(way[0], FIRST)
        self.assertTrue(goes(plan, way))
        self.assertTrue(does_twice(plan, deed, way))

    def check(self, plan, there, deed=DEED):
        way = twice(plan, deed)
        if there:
            self.check_way(plan, deed, way)
        else:
            self.assertIsNone(way)

    def test_none(self):
        for rows in ([SKIP], [DO], [SKIP, DO, SKIP], [DO, SPOIL, DO], [DO, ("set", "y", ("plus", "b", "a"))]):
            self.check(chain(rows), False)

    def test_straight_on(self):
        self.assertEqual(twice(chain([DO, AGAIN]), DEED), [FIRST, (0, 0)])
        self.assertEqual(twice(chain([SKIP, DO, SKIP, AGAIN, SKIP]), DEED), [FIRST, (0, 0), (1, 0), (2, 0)])

    def test_a_row_between_that_spoils(self):
        for row in (SPOIL, ("copy", "a", "a"), ("set", "b", ("same", 1, 1)), ("take", "a")):
            self.check(chain([DO, row, AGAIN]), False)
            self.check(chain([DO, SKIP, row, SKIP, AGAIN]), False)
            self.check(chain([DO, row, AGAIN, SKIP, DO]), True)
            self.check(chain([DO, SKIP, AGAIN, row, DO]), True)
        for row in (("take", "c"), ("tell", "a"), ("copy", "x", "a"), ("set", "plus", ("same", "a", "b"))):
            self.check(chain([DO, row, AGAIN]), True)

    def test_a_first_row_that_spoils_its_own_deed(self):
        self.check(chain([DO_AND_SPOIL, DO]), False)
        self.check(chain([DO_AND_SPOIL, SKIP, DO_AND_SPOIL]), False)
        # The second of both may spoil it.
        self.check(chain([DO, DO_AND_SPOIL]), True)
        self.check(chain([DO, DO_AND_SPOIL, SKIP, DO]), True)
        self.assertEqual(twice(chain([DO_AND_SPOIL, DO, AGAIN]), DEED), [FIRST, (0, 0), (1, 0)])

    def test_the_same_place_come_to_again(self):
        plan = Plan([ASK, DO, SKIP], [[1, 2], [0], []])
        self.assertEqual(twice(plan, DEED), [FIRST, (0, 0), (1, 0), (0, 0)])
        plan = Plan([ASK, DO_AND_SPOIL, SKIP], [[1, 2], [0], []])
        self.check(plan, False)
        plan = Plan([ASK, DO, SPOIL, SKIP], [[1, 3], [2], [0], []])
        self.check(plan, False)
        # A place that leads to itself, and place 0 come to again.
        plan = Plan([("set", "x", DEED), ASK, SKIP], [[1], [0, 2], []])
        self.check(plan, True)

    def test_on_one_way_alone(self):
        plan = Plan([DO, ASK, SPOIL, SKIP, AGAIN], [[1], [2, 3], [4], [4], []])
        self.assertEqual(twice(plan, DEED), [FIRST, (0, 0), (1, 1), (3, 0)])
        plan = Plan([ASK, DO, SKIP, AGAIN], [[1, 2], [3], [3], []])
        self.assertEqual(twice(plan, DEED), [FIRST, (0, 0), (1, 0)])

    def test_two_rows_on_ways_apart(self):
        self.check(Plan([ASK, DO, AGAIN, SKIP], [[1, 2], [3], [3], []]), False)

    def test_a_deed_that_no_row_does(self):
        for deed in DEEDS[1:]:
            self.check(chain([DO, AGAIN, DO]), False, deed)

    def test_a_kind_that_is_a_name(self):
        deed = ("plus", "a", "b")
        self.check(chain([("set", "x", deed), ("take", "plus"), ("set", "y", deed)]), True, deed)
        deed = ("plus", "plus", 1)
        self.check(chain([("set", "x", deed), ("take", "plus"), ("set", "y", deed)]), False, deed)

    def test_small_plans(self):
        seen = [0, 0]
        for plan in small_plans(401, 200, 5):
            ways = ways_from_first(plan)
            for deed in DEEDS:
                there = any(does_twice(plan, deed, way) for way in ways)
                with self.subTest(rows=plan.rows, nexts=plan.nexts, deed=deed):
                    self.check(plan, there, deed)
                seen[there] += 1
        self.assertGreater(min(seen), 30)

    def test_long(self):
        for make in (chain, backward_chain):
            self.check(make([DO] + [SKIP] * 398 + [AGAIN]), True)
            self.check(make([DO] + [SKIP] * 200 + [SPOIL] + [SKIP] * 197 + [AGAIN]), False)
            self.check(make([DO] * 400), True)
        self.check(ring([SKIP] * 397 + [DO]), True)
        self.check(ring([SPOIL] + [SKIP] * 396 + [DO]), False)


class WhyTwice(unittest.TestCase):
    def check(self, plan, deed, there=None):
        """The plan is one that moved leaves as it is."""
        told = why_twice(plan, deed)
        if there is not None:
            self.assertIs(told is not None, there)
        if told is None:
            self.assertIsNone(twice(plan, deed))
            return False
        self.assertIs(type(told), tuple)
        way, step, one, other = told
        self.assertEqual(way[0], FIRST)
        self.assertTrue(goes(plan, way) and does_twice(plan, deed, way))
        self.check_step(plan, deed, way, step)
        self.check_ways(plan, deed, step, one, other)
        return True

    def check_step(self, plan, deed, way, step):
        self.assertIn(step, Brinks(plan, deed).steps())
        rows = rows_along(plan, walked(plan, way))
        comings = [k for k, passed in enumerate(way) if passed == step]
        self.assertTrue(any(
            does(rows[j], deed) and not any(spoils(row, deed) for row in rows[j:-1]) for k in comings for j in range(k)
        ))

    def check_ways(self, plan, deed, step, one, other):
        self.assertIs(type(one), list)
        self.assertIs(type(other), list)
        self.assertEqual(one[0], FIRST)
        self.assertTrue(goes(plan, one))
        self.assertEqual(led(plan, one[-1]), step[0])
        self.assertFalse(ready_after(rows_along(plan, walked(plan, one)), deed))
        self.assertTrue(goes(plan, other))
        self.assertEqual(other[0][0], step[0])
        self.assertTrue(is_stop(plan, led(plan, other[-1])))
        self.assertFalse(wanted_before(rows_along(plan, walked(plan, other)), deed))

    def test_none(self):
        for rows in ([SKIP], [DO], [DO, SPOIL, DO], [DO_AND_SPOIL, DO], [DO, AGAIN]):
            self.assertIsNone(why_twice(moved(chain(rows)).plan, DEED))

    def test_by_hand(self):
        # Behind place 3 one way wants the deed, the other doesn't; ahead one way did it, the other didn't.
        plan = Plan([ASK, DO, SKIP, ASK, AGAIN, SKIP], [[1, 2], [3], [3], [4, 5], [5], []])
        told = moved(plan)
        self.assertEqual((told.plan.rows, told.plan.nexts), (plan.rows, plan.nexts))
        self.assertEqual(why_twice(plan, DEED), (
            [FIRST, (0, 0), (1, 0), (3, 0)], (3, 0), [FIRST, (0, 1), (2, 0)], [(3, 1)],
        ))
        self.check(plan, DEED, True)

    def test_round_a_loop(self):
        plan = Plan([ASK, DO, SKIP], [[1, 2], [0], []])
        told = moved(plan)
        self.assertEqual((told.plan.rows, told.plan.nexts), (plan.rows, plan.nexts))
        self.assertEqual(why_twice(plan, DEED), (
            [FIRST, (0, 0), (1, 0), (0, 0)], (0, 0), [FIRST], [(0, 1)],
        ))
        self.check(plan, DEED, True)

    def test_the_first_doing_lies_behind_another_brink(self):
        # The deed is done behind the spoiling row, ahead of the step that counts.
        plan = Plan([SPOIL, DO, ASK, SPOIL, ASK, AGAIN, SKIP], [[1], [2], [3, 4], [4], [5, 6], [6], []])
        told = moved(plan)
        self.assertEqual((told.plan.rows, told.plan.nexts), (plan.rows, plan.nexts))
        self.assertEqual(why_twice(plan, DEED)[1], (4, 0))
        self.check(plan, DEED, True)

    def test_moved_plans(self):
        dice = Dice(411)
        seen = 0
        for plan in small_plans(411, 300, 6) + grown_plans(412, 400, 20) + grown_plans(413, 100, 20, RUN_POOL):
            for held in helds(plan, dice):
                told = moved(plan, held).plan
                for deed in deeds_of(told) + [("same", 1, 2)]:
                    with self.subTest(rows=told.rows, nexts=told.nexts, deed=deed):
                        seen += self.check(told, deed)
        self.assertGreater(seen, 300)

    def test_the_step_is_a_brink(self):
        seen = 0
        for plan in small_plans(414, 1500, 5):
            told = moved(plan).plan
            for deed in deeds_of(told):
                why = why_twice(told, deed)
                if why is not None and len(told.rows) < 7:
                    self.assertIn(why[1], brink_list(told, deed))
                    self.assertIn(why[1], why[0])
                    seen += 1
        self.assertGreater(seen, 10)

    def test_a_moved_plan_no_row_of_which_asks(self):
        dice = Dice(415)
        pool = [row for row in RUN_POOL if row[0] != "ask"] + [DO, AGAIN]
        before = 0
        for turn in range(150):
            plan = chain([dice.one_of(pool) for place in range(1 + dice.below(40))])
            told = moved(plan, dice.one_of(helds(plan, dice))).plan
            for deed in deeds_of(plan):
                before += twice(plan, deed) is not None
                self.assertIsNone(twice(told, deed))
                self.assertIsNone(why_twice(told, deed))
        self.assertGreater(before, 50)

    def test_long(self):
        for plan in (ring([SKIP] * 397 + [DO]), ring([DO] + [SKIP] * 397)):
            self.check(moved(plan).plan, DEED, True)
        rows = [ASK, DO, SKIP] + [SKIP] * 394 + [ASK, AGAIN, SKIP]
        nexts = [[1, 2], [3], [3]] + [[place + 1] for place in range(3, 397)] + [[398, 399], [399], []]
        self.check(moved(Plan(rows, nexts)).plan, DEED, True)


class Copies(unittest.TestCase):
    def test_what_is_told_is_the_askers_own(self):
        plan = Plan([ASK, DO, SKIP, ASK, AGAIN, SKIP], [[1, 2], [3], [3], [4, 5], [5], []])
        before = (list(plan.rows), copy.deepcopy(plan.nexts), plan.steps())
        wanted = (twice(plan, DEED), copy.deepcopy(why_twice(plan, DEED)))
        first = twice(plan, DEED)
        first.clear()
        why = why_twice(plan, DEED)
        for part in (why[0], why[2], why[3]):
            part.append("z")
        self.assertEqual((twice(plan, DEED), why_twice(plan, DEED)), wanted)
        self.assertEqual((plan.rows, plan.nexts, plan.steps()), before)


if __name__ == "__main__":
    unittest.main()
