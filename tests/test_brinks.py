"""Point 16: brinks and their papers. Points 3 and 5 for these."""

import copy
import unittest

from oncedone.brinks import Brinks
from oncedone.plans import Plan
from tests.helper import ASK, DEED, DO, DO_AND_SPOIL, FIRST, SKIP, SPOIL, all_steps, backward_chain, brink_list, chain
from tests.helper import does, goes, is_stop, led, ready_after, ring, rows_along, small_plans, spoils, walked
from tests.helper import wanted_before, wanted_tables, whole_ways

DEEDS = (DEED, ("plus", "b", "a"), ("times", "a", "b"), ("less", "a", 0), ("same", 1, 2))


class BrinksTests(unittest.TestCase):
    def check_apart(self, plan, deed, step, why):
        word, one, other = why
        place = step[0]
        self.assertEqual(word, "apart")
        for way in (one, other):
            self.assertIs(type(way), list)
            self.assertTrue(goes(plan, way))
        self.assertEqual((one[0], led(plan, one[-1])), (FIRST, place))
        self.assertFalse(ready_after(rows_along(plan, walked(plan, one)), deed))
        self.assertEqual(other[0][0], place)
        self.assertTrue(is_stop(plan, led(plan, other[-1])))
        self.assertFalse(wanted_before(rows_along(plan, walked(plan, other)), deed))

    def check(self, plan, deed, steps):
        brinks = Brinks(plan, deed)
        with self.subTest(rows=plan.rows, nexts=plan.nexts, deed=deed):
            self.assertEqual(brinks.steps(), steps)
            for step in all_steps(plan):
                why = brinks.why_brink(step)
                if step not in steps:
                    self.assertIsNone(why)
                elif step == FIRST:
                    self.assertEqual(why, ("first",))
                elif spoils(plan.rows[step[0]], deed):
                    self.assertEqual(why, ("spoilt", step[0]))
                else:
                    self.assertIs(type(why), tuple)
                    self.check_apart(plan, deed, step, why)

    def test_the_first_step(self):
        self.check(chain([DO]), DEED, [FIRST])
        self.check(chain([SKIP, SKIP, DO, SKIP, DO]), DEED, [FIRST])
        self.check(chain([DO_AND_SPOIL]), DEED, [FIRST])
        self.assertEqual(Brinks(chain([SKIP, DO]), DEED).why_brink(FIRST), ("first",))

    def test_behind_a_row_that_spoils(self):
        self.check(chain([SPOIL, DO]), DEED, [(0, 0)])
        self.check(chain([SPOIL, SKIP, DO]), DEED, [(0, 0)])
        self.check(chain([DO, SPOIL, SKIP, DO]), DEED, [FIRST, (1, 0)])
        self.check(chain([DO_AND_SPOIL, DO, SKIP]), DEED, [FIRST, (0, 0)])
        self.assertEqual(Brinks(chain([SKIP, SKIP, SPOIL, DO]), DEED).why_brink((2, 0)), ("spoilt", 2))

    def test_apart_some_steps_behind_a_row_that_spoils(self):
        # The ask doesn't spoil, the row ahead of it does, and the deed isn't wanted behind that row.
        plan = Plan([SPOIL, ASK, DO, SKIP], [[1], [2, 3], [], []])
        self.check(plan, DEED, [(1, 0)])
        self.assertEqual(Brinks(plan, DEED).why_brink((1, 0))[0], "apart")

    def test_apart(self):
        self.check(Plan([ASK, DO, SKIP], [[1, 2], [], []]), DEED, [(0, 0)])
        self.check(Plan([ASK, SKIP, DO], [[1, 2], [], []]), DEED, [(0, 1)])
        # Ready by one of the ways into place 3, so wanted behind it alone.
        plan = Plan([ASK, DO, SKIP, ASK, DO, SKIP], [[1, 2], [3], [3], [4, 5], [], []])
        self.check(plan, DEED, [(0, 0), (3, 0)])
        why = Brinks(plan, DEED).why_brink((3, 0))
        self.assertEqual(why, ("apart", [FIRST, (0, 1), (2, 0)], [(3, 1)]))

    def test_apart_in_a_loop(self):
        # The way on that doesn't want it may come to the place again.
        plan = Plan([ASK, DO, SPOIL, SKIP], [[1, 3], [2], [0], []])
        self.check(plan, DEED, [(0, 0)])
        plan = Plan([ASK, ASK, DO, SKIP], [[1, 1], [2, 3], [0], []])
        self.check(plan, DEED, [(1, 0)])

    def test_none(self):
        self.check(chain([SKIP, SPOIL, SKIP]), DEED, [])
        self.check(chain([DO, SKIP]), ("plus", "b", "a"), [])
        self.check(Plan([ASK, SKIP, SKIP], [[1, 2], [], []]), DEED, [])

    def test_ready_steps_are_none(self):
        self.check(Plan([DO, ASK, DO, SKIP], [[1], [2, 3], [], []]), DEED, [FIRST])

    def test_steps_that_are_wanted_ahead_are_none(self):
        self.check(Plan([ASK, DO, SKIP, DO], [[1, 2], [], [3], []]), DEED, [FIRST])

    def test_the_order_of_steps(self):
        # Handed in so that the later places are come to first.
        plan = Plan([ASK, DO, SPOIL, ASK, SKIP, DO], [[3, 2], [], [1], [4, 5], [], []])
        self.check(plan, DEED, [(2, 0), (3, 1)])
        plan = Plan([ASK, DO, ASK, DO, DO, SPOIL], [[1, 2], [], [3, 4], [5], [5], []])
        self.check(plan, DEED, [FIRST])
        rows = [ASK, ASK, ASK, SKIP, DO, DO, DO]
        self.check(Plan(rows, [[2, 1], [5, 3], [3, 4], [], [], [6], []]), DEED, [(1, 0), (2, 1)])
        # Both steps of an ask to the same place: either both are or none.
        self.check(Plan([SPOIL, ASK, DO], [[1], [2, 2], []]), DEED, [(0, 0)])

    def test_small_plans(self):
        seen = set()
        for plan in small_plans(41, 300, 5):
            for deed in DEEDS:
                self.check(plan, deed, brink_list(plan, deed))
                brinks = Brinks(plan, deed)
                seen.update(brinks.why_brink(step)[0] for step in brinks.steps())
        self.assertEqual(seen, {"first", "spoilt", "apart"})

    def test_never_more_brinks_on_a_whole_way_than_rows_that_do_it(self):
        for plan in small_plans(42, 200, 4):
            for deed in DEEDS:
                brinks = Brinks(plan, deed).steps()
                for way in whole_ways(plan):
                    rows = rows_along(plan, walked(plan, way))
                    many = sum(step in brinks for step in way)
                    self.assertLessEqual(many, sum(does(row, deed) for row in rows))

    def test_chains_and_rings_of_four_hundred(self):
        rows = [SPOIL] + [SKIP] * 398 + [DO]
        self.check(chain(rows), DEED, [(0, 0)])
        self.check(backward_chain(rows), DEED, [(0, 0)])
        self.check(ring([SKIP] * 397 + [DO]), DEED, [(0, 0)])
        self.check(ring([DO] + [SKIP] * 396 + [SPOIL]), DEED, [(0, 0)])
        spoilt = [SPOIL, DO] * 200
        self.check(chain(spoilt), DEED, [(place, 0) for place in range(0, 400, 2)])


class Papers(unittest.TestCase):
    def test_the_own_row_is_not_counted_where_the_way_begins(self):
        # In each of these the step is apart; the told way on begins with a step from its place.
        found = 0
        for plan in small_plans(43, 200, 5):
            wanted_behind = wanted_tables(plan, DEED)[1]
            brinks = Brinks(plan, DEED)
            for step in brinks.steps():
                why = brinks.why_brink(step)
                if why[0] == "apart":
                    found += 1
                    self.assertFalse(wanted_behind[step[0]])
                    self.assertEqual(why[2][0][0], step[0])
        self.assertGreater(found, 20)


class Copies(unittest.TestCase):
    def test_told_lists_and_ways_are_the_askers_own(self):
        plan = Plan([ASK, DO, SKIP, ASK, DO, SKIP], [[1, 2], [3], [3], [4, 5], [], []])
        brinks = Brinks(plan, DEED)
        first = brinks.steps()
        first.reverse()
        first.append("z")
        self.assertEqual(brinks.steps(), [(0, 0), (3, 0)])
        for step in brinks.steps():
            kept = copy.deepcopy(brinks.why_brink(step))
            told = brinks.why_brink(step)
            second = brinks.why_brink(step)
            told[1].clear()
            told[2].append("z")
            self.assertEqual(second, kept)
            self.assertEqual(brinks.why_brink(step), kept)

    def test_asking_changes_nothing(self):
        for plan in small_plans(44, 60, 5):
            before = (list(plan.rows), copy.deepcopy(plan.nexts), plan.steps())
            one = Brinks(plan, DEED)
            other = Brinks(plan, ("times", "a", "b"))
            told = [self.all_of(plan, one), self.all_of(plan, other)]
            self.assertEqual([self.all_of(plan, one), self.all_of(plan, other)], told)
            self.assertEqual(self.all_of(plan, Brinks(plan, DEED)), told[0])
            self.assertEqual((plan.rows, plan.nexts, plan.steps()), before)

    def all_of(self, plan, brinks):
        return (brinks.steps(), [brinks.why_brink(step) for step in plan.steps()])


if __name__ == "__main__":
    unittest.main()
