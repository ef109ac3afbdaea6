"""Point 14 and the part of point 15 on wanted. Point 3 for these."""

import copy
import unittest

from oncedone.plans import Plan
from oncedone.wanted import Wanted
from tests.helper import ASK, DEED, DO, DO_AND_SPOIL, SKIP, SPOIL, all_steps, backward_chain, chain, goes
from tests.helper import is_stop, led, ring, rows_along, small_plans, walked, wanted_before, wanted_tables

DEEDS = (DEED, ("plus", "b", "a"), ("times", "a", "b"), ("less", "a", 0), ("same", 1, 2))


class WantedTests(unittest.TestCase):
    def check_way(self, plan, deed, place, way):
        """The told way is a whole way on from the place, and the deed isn't wanted on it, the place's own row counted."""
        self.assertIs(type(way), list)
        if is_stop(plan, place):
            self.assertEqual(way, [])
        else:
            self.assertTrue(goes(plan, way))
            self.assertEqual(way[0][0], place)
            self.assertTrue(is_stop(plan, led(plan, way[-1])))
        self.assertFalse(wanted_before(rows_along(plan, [place] + walked(plan, way)), deed))

    def check(self, plan, deed, at, behind):
        wanted = Wanted(plan, deed)
        for place in range(len(plan.rows)):
            with self.subTest(rows=plan.rows, nexts=plan.nexts, deed=deed, place=place):
                self.assertIs(wanted.wanted_at(place), at[place])
                self.assertIs(wanted.wanted_behind(place), behind[place])
                if at[place]:
                    self.assertIsNone(wanted.way_unwanted(place))
                else:
                    self.check_way(plan, deed, place, wanted.way_unwanted(place))
        for step in all_steps(plan):
            self.assertIs(wanted.wanted_on(step), at[led(plan, step)])

    def test_a_row(self):
        self.check(chain([SKIP, SKIP, DO]), DEED, [True, True, True], [True, True, False])
        self.check(chain([SKIP, DO, SKIP]), DEED, [True, True, False], [True, False, False])
        self.check(chain([DO, DO, SKIP]), DEED, [True, True, False], [True, False, False])

    def test_behind_a_stop_nothing_is_wanted(self):
        for row, at in ((DO, True), (DO_AND_SPOIL, True), (SKIP, False), (SPOIL, False)):
            self.check(chain([row]), DEED, [at], [False])
            self.check(Plan([ASK, row], [[0, 1], []]), DEED, [at, at], [at, False])

    def test_a_row_that_does_and_spoils(self):
        self.check(chain([SKIP, DO_AND_SPOIL, SKIP]), DEED, [True, True, False], [True, False, False])
        self.check(chain([DO_AND_SPOIL, DO]), DEED, [True, True], [True, False])
        self.check(chain([DO_AND_SPOIL]), DEED, [True], [False])

    def test_a_row_that_spoils_ahead_of_the_one_that_does(self):
        for row in (SPOIL, ("take", "a"), ("copy", "a", 1), ("copy", "b", "b"), ("set", "a", ("less", 1, 2))):
            self.check(chain([SKIP, row, DO]), DEED, [False, False, True], [False, True, False])
            self.check(chain([DO, row, DO]), DEED, [True, False, True], [False, True, False])
            self.check(chain([row, SKIP, SKIP]), DEED, [False] * 3, [False] * 3)

    def test_deeds_that_no_row_does(self):
        for deed in (("plus", "b", "a"), ("minus", "a", "b"), ("less", 1, 2), ("plus", "x", "x")):
            self.check(chain([SKIP, DO, DO]), deed, [False] * 3, [False] * 3)
            self.check(ring([DO, SKIP]), deed, [False] * 4, [False] * 4)

    def test_both_ways_on_do_it(self):
        nexts = [[1, 2], [3], [3], []]
        self.check(Plan([ASK, DO, DO, SKIP], nexts), DEED, [True, True, True, False], [True, False, False, False])
        self.check(Plan([ASK, DO, SKIP, SKIP], nexts), DEED, [False, True, False, False], [False] * 4)
        self.check(Plan([ASK, SKIP, DO, SKIP], nexts), DEED, [False, False, True, False], [False] * 4)
        self.check(Plan([ASK, SPOIL, SKIP, DO], nexts), DEED, [False, False, True, True], [False, True, True, False])

    def test_loops(self):
        # Only whole ways count: a loop that could be gone for ever doesn't hinder.
        nexts = [[1], [2, 3], [1], []]
        self.check(Plan([SKIP, ASK, SKIP, DO], nexts), DEED, [True] * 4, [True, True, True, False])
        self.check(Plan([SKIP, ASK, SPOIL, DO], nexts), DEED, [False, False, False, True], [False, False, False, False])
        self.check(Plan([SKIP, ASK, DO, SKIP], nexts), DEED, [False, False, True, False], [False, False, False, False])
        self.check(Plan([SKIP, ASK, DO, DO], nexts), DEED, [True] * 4, [True, True, True, False])

    def test_the_own_row_counts_where_the_way_comes_again(self):
        # Behind place 0, which does it, a way on comes back to it or stops.
        self.check(Plan([DO, ASK, SKIP], [[1], [0, 2], []]), DEED, [True, False, False], [False, False, False])
        self.check(Plan([DO, ASK, DO], [[1], [0, 2], []]), DEED, [True, True, True], [True, True, False])
        # A row that spoils the deed counts neither behind it nor where no way comes to it again.
        self.check(Plan([SPOIL, ASK, DO], [[1], [1, 2], []]), DEED, [False, True, True], [True, True, False])
        self.check(Plan([SPOIL, ASK, DO], [[1], [0, 2], []]), DEED, [False, False, True], [False, False, False])

    def test_small_plans(self):
        for plan in small_plans(31, 300, 5):
            for deed in DEEDS:
                self.check(plan, deed, *wanted_tables(plan, deed))

    def test_chains_of_four_hundred(self):
        rows = [SKIP] * 100 + [SPOIL] + [SKIP] * 200 + [DO] + [SKIP] * 98
        at = [100 < k <= 301 for k in range(400)]
        behind = [100 <= k <= 300 for k in range(400)]
        self.check(chain(rows), DEED, at, behind)
        self.check(backward_chain(rows), DEED, at[:1] + at[:0:-1], behind[:1] + behind[:0:-1])

    def test_rings_of_four_hundred(self):
        # The ring is left from place 0 alone, so only what comes behind it settles the rest.
        self.check(ring([SKIP] * 398), DEED, [False] * 400, [False] * 400)
        self.check(ring([SKIP] * 397 + [DO]), DEED, [False] + [True] * 398 + [False], [False] + [True] * 397 + [False] * 2)
        for last, wanted in ((SKIP, True), (SPOIL, False)):
            rows = [SKIP, ASK] + [SKIP] * 396 + [last, DO]
            nexts = [[1], [2, 399]] + [[place + 1] for place in range(2, 398)] + [[1], []]
            self.check(Plan(rows, nexts), DEED, [wanted] * 399 + [True], [wanted] * 399 + [False])


class Copies(unittest.TestCase):
    def test_told_ways_are_the_askers_own(self):
        plan = Plan([SKIP, ASK, SPOIL, SKIP], [[1], [2, 3], [1], []])
        wanted = Wanted(plan, DEED)
        for place in range(4):
            first = wanted.way_unwanted(place)
            second = wanted.way_unwanted(place)
            kept = list(first)
            first.append("z")
            first.reverse()
            self.assertEqual(second, kept)
            second.clear()
            self.assertEqual(wanted.way_unwanted(place), kept)

    def test_asking_changes_nothing(self):
        for plan in small_plans(32, 40, 5):
            before = (list(plan.rows), copy.deepcopy(plan.nexts), plan.steps(), [plan.steps_into(0)])
            one = Wanted(plan, DEED)
            other = Wanted(plan, ("times", "a", "b"))
            told = [self.all_of(plan, one), self.all_of(plan, other)]
            self.assertEqual([self.all_of(plan, one), self.all_of(plan, other)], told)
            self.assertEqual(self.all_of(plan, Wanted(plan, DEED)), told[0])
            self.assertEqual((plan.rows, plan.nexts, plan.steps(), [plan.steps_into(0)]), before)

    def all_of(self, plan, wanted):
        places = range(len(plan.rows))
        return (
            [wanted.wanted_at(place) for place in places], [wanted.wanted_behind(place) for place in places],
            [wanted.wanted_on(step) for step in plan.steps()], [wanted.way_unwanted(place) for place in places],
        )


if __name__ == "__main__":
    unittest.main()
