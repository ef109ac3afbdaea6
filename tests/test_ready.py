"""Point 13 and the part of point 15 on ready. Point 3 for these."""

import copy
import unittest

from oncedone.plans import Plan
from oncedone.ready import Ready
from tests.helper import ASK, DEED, DO, DO_AND_SPOIL, FIRST, SKIP, SPOIL, all_steps, backward_chain, chain, goes, led
from tests.helper import ready_after, ready_tables, ring, rows_along, small_plans, walked

DEEDS = (DEED, ("plus", "b", "a"), ("times", "a", "b"), ("less", "a", 0), ("same", 1, 2))


class ReadyTests(unittest.TestCase):
    def check_way(self, plan, deed, place, way):
        """The told way leads from the first step to the place, and the deed isn't ready on it."""
        self.assertIs(type(way), list)
        self.assertTrue(goes(plan, way))
        self.assertEqual((way[0], led(plan, way[-1])), (FIRST, place))
        self.assertFalse(ready_after(rows_along(plan, walked(plan, way)[:-1]), deed))

    def check(self, plan, deed, at, behind):
        ready = Ready(plan, deed)
        for place in range(len(plan.rows)):
            with self.subTest(rows=plan.rows, nexts=plan.nexts, deed=deed, place=place):
                self.assertIs(ready.ready_at(place), at[place])
                self.assertIs(ready.ready_behind(place), behind[place])
                if at[place]:
                    self.assertIsNone(ready.way_unready(place))
                else:
                    self.check_way(plan, deed, place, ready.way_unready(place))
        for step in all_steps(plan):
            self.assertIs(ready.ready_on(step), step != FIRST and behind[step[0]])

    def test_a_row(self):
        self.check(chain([DO, SKIP, SKIP]), DEED, [False, True, True], [True, True, True])
        self.check(chain([SKIP, DO, SKIP]), DEED, [False, False, True], [False, True, True])
        self.check(chain([DO]), DEED, [False], [True])

    def test_a_row_that_spoils(self):
        for row in (SPOIL, ("take", "a"), ("copy", "a", 1), ("copy", "b", "b"), ("set", "a", ("less", 1, 2))):
            self.check(chain([DO, row, SKIP]), DEED, [False, True, False], [True, False, False])
            self.check(chain([DO, row, DO]), DEED, [False, True, False], [True, False, True])
            self.check(chain([row, DO, SKIP]), DEED, [False, False, True], [False, True, True])

    def test_a_row_that_does_and_spoils(self):
        self.check(chain([DO_AND_SPOIL, SKIP]), DEED, [False, False], [False, False])
        self.check(chain([DO, DO_AND_SPOIL, SKIP]), DEED, [False, True, False], [True, False, False])
        self.check(chain([DO_AND_SPOIL, DO, SKIP]), DEED, [False, False, True], [False, True, True])

    def test_deeds_that_no_row_does(self):
        for deed in (("plus", "b", "a"), ("minus", "a", "b"), ("less", 1, 2), ("plus", "x", "x")):
            self.check(chain([DO, SKIP, DO]), deed, [False] * 3, [False] * 3)
            self.check(ring([DO, SKIP]), deed, [False] * 4, [False] * 4)

    def test_both_ways_do_it(self):
        nexts = [[1, 2], [3], [3], []]
        self.check(Plan([ASK, DO, DO, SKIP], nexts), DEED, [False, False, False, True], [False, True, True, True])
        self.check(Plan([ASK, DO, SKIP, SKIP], nexts), DEED, [False] * 4, [False, True, False, False])
        self.check(Plan([ASK, SKIP, DO, DO], nexts), DEED, [False] * 4, [False, False, True, True])

    def test_place_0_with_steps_that_lead_back_to_it(self):
        self.check(ring([DO]), DEED, [False, False, False], [False, True, False])
        # Even where place 0 itself does it, it isn't ready there.
        plan = Plan([DO, ASK, SKIP], [[1], [0, 2], []])
        self.check(plan, DEED, [False, True, True], [True, True, True])

    def test_loops(self):
        # Done ahead of a loop in which nothing spoils it, and then with something that does.
        nexts = [[1], [2, 3], [1], []]
        self.check(Plan([DO, ASK, SKIP, SKIP], nexts), DEED, [False, True, True, True], [True] * 4)
        self.check(Plan([DO, ASK, SPOIL, SKIP], nexts), DEED, [False] * 4, [True, False, False, False])
        self.check(Plan([SKIP, ASK, DO, SKIP], nexts), DEED, [False] * 4, [False, False, True, False])

    def test_a_loop_that_spoils_and_does_anew(self):
        plan = Plan([DO, ASK, SPOIL, DO, SKIP], [[1], [2, 4], [3], [1], []])
        self.check(plan, DEED, [False, True, True, False, True], [True, True, False, True, True])

    def test_the_told_way_goes_a_round_where_it_must(self):
        # Place 2 is unready only when the way went round by the spoiling place 3.
        plan = Plan([DO, ASK, ASK, SPOIL, SKIP], [[1], [2, 2], [3, 4], [1], []])
        self.check(plan, DEED, [False] * 5, [True] + [False] * 4)
        self.assertIn(3, walked(plan, Ready(plan, DEED).way_unready(4)))

    def test_a_place_may_come_twice_on_the_told_way(self):
        # The way comes to place 2, which spoils, and back by place 1 to the stop.
        plan = Plan([DO, ASK, SPOIL, SKIP], [[1], [2, 3], [1], []])
        self.assertEqual(walked(plan, Ready(plan, DEED).way_unready(3)), [0, 1, 2, 1, 3])

    def test_small_plans(self):
        for plan in small_plans(21, 300, 5):
            for deed in DEEDS:
                self.check(plan, deed, *ready_tables(plan, deed))

    def test_chains_of_four_hundred(self):
        rows = [SKIP] * 100 + [DO] + [SKIP] * 200 + [SPOIL] + [SKIP] * 98
        at = [100 < k <= 301 for k in range(400)]
        behind = [100 <= k <= 300 for k in range(400)]
        self.check(chain(rows), DEED, at, behind)
        turned = [at[:1] + at[:0:-1], behind[:1] + behind[:0:-1]]
        self.check(backward_chain(rows), DEED, *turned)

    def test_rings_of_four_hundred(self):
        self.check(ring([SKIP] * 397 + [DO]), DEED, [False] * 400, [False] * 398 + [True, False])
        self.check(ring([DO] + [SKIP] * 397), DEED, [False] * 2 + [True] * 397 + [False], [False] + [True] * 398 + [False])
        # The first place does it, the ring hangs behind it, and only its last place spoils.
        for last, ready in ((SKIP, True), (SPOIL, False)):
            rows = [DO, ASK] + [SKIP] * 396 + [last, SKIP]
            nexts = [[1], [2, 399]] + [[place + 1] for place in range(2, 398)] + [[1], []]
            plan = Plan(rows, nexts)
            self.check(plan, DEED, [False] + [ready] * 399, [True] + [ready] * 399)


class Copies(unittest.TestCase):
    def test_told_ways_are_the_askers_own(self):
        plan = Plan([DO, ASK, SPOIL, SKIP], [[1], [2, 3], [1], []])
        ready = Ready(plan, DEED)
        for place in range(4):
            first = ready.way_unready(place)
            second = ready.way_unready(place)
            kept = list(first)
            first.append("z")
            first.reverse()
            self.assertEqual(second, kept)
            second.clear()
            self.assertEqual(ready.way_unready(place), kept)

    def test_asking_changes_nothing(self):
        for plan in small_plans(22, 40, 5):
            before = (list(plan.rows), copy.deepcopy(plan.nexts), plan.steps(), [plan.steps_into(0)])
            one = Ready(plan, DEED)
            other = Ready(plan, ("times", "a", "b"))
            told = [self.all_of(plan, one), self.all_of(plan, other)]
            self.assertEqual([self.all_of(plan, one), self.all_of(plan, other)], told)
            self.assertEqual(self.all_of(plan, Ready(plan, DEED)), told[0])
            self.assertEqual((plan.rows, plan.nexts, plan.steps(), [plan.steps_into(0)]), before)

    def all_of(self, plan, ready):
        places = range(len(plan.rows))
        return (
            [ready.ready_at(place) for place in places], [ready.ready_behind(place) for place in places],
            [ready.ready_on(step) for step in plan.steps()], [ready.way_unready(place) for place in places],
        )


if __name__ == "__main__":
    unittest.main()
