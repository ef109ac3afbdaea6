"""Point 10: ways. Point 3 for these."""

import copy
import unittest

from oncedone.plans import Plan
from oncedone.ways import is_way, is_whole_way, places_of, way_on, way_to
from tests.helper import ASK, FIRST, NO_LISTS, SKIP, all_steps, backward_chain, chain, goes, is_stop, led, ring
from tests.helper import small_plans, walked, ways_from_first, ways_on, whole_ways_on


def forked_plan():
    return Plan([ASK, ASK, SKIP, SKIP, SKIP], [[1, 4], [3, 2], [0], [], []])


class IsWay(unittest.TestCase):
    def test_ways(self):
        for way, whole in (
            ([FIRST], False), ([(0, 0)], False), ([(2, 0)], False), ([(0, 1)], False), ([FIRST, (0, 1)], True),
            ([FIRST, (0, 0)], False), ([FIRST, (0, 0), (1, 0)], True), ([(0, 0), (1, 0)], False),
            ([(1, 1), (2, 0), (0, 0), (1, 1), (2, 0), (0, 1)], False),
            ([FIRST, (0, 0), (1, 1), (2, 0), (0, 0), (1, 1), (2, 0), (0, 1)], True),
            ([FIRST, (0, 0), (1, 1), (2, 0)], False),
        ):
            with self.subTest(way=way):
                self.assertIs(is_way(forked_plan(), way), True)
                self.assertIs(is_whole_way(forked_plan(), way), whole)

    def none(self, way, plan=None):
        plan = plan or forked_plan()
        with self.subTest(way=repr(way)[:80]):
            self.assertIs(is_way(plan, way), False)
            self.assertIs(is_whole_way(plan, way), False)

    def test_the_empty_list(self):
        self.none([])

    def test_no_lists(self):
        for thing in NO_LISTS + [(FIRST,), (FIRST, (0, 1)), FIRST, "way", {FIRST: (0, 1)}, {0: FIRST}, forked_plan()]:
            self.none(thing)

    def test_lists_with_other_things_than_steps(self):
        for thing in NO_LISTS + [
            [], [0, 0], [-1, 0], (-1,), (0,), (0, 0, 0), (-1, 0, 0), (0, "0"), ("0", 0), ("", ""), (None, 0), (0, None),
            ([0], 0), (0, [1]), ((0,), 0), ({}, {}), "00", ((-1, 0),), [(-1, 0)], ((), ()),
        ]:
            self.none([thing])
            self.none([FIRST, thing])
            self.none([thing, (0, 1)])
            self.none([FIRST, (0, 0), thing])

    def test_steps_that_the_plan_has_not(self):
        for step in (
            (-1, 1), (-1, -1), (-2, 0), (0, 2), (0, -1), (2, 1), (2, -1), (3, 0), (3, -1), (4, 0), (5, 0), (-5, 0),
            (0, 10 ** 12), (10 ** 12, 0), (-(10 ** 12), 0),
        ):
            self.none([step])
            self.none([FIRST, step])
            self.none([FIRST, (0, 0), step])

    def test_steps_behind_the_last_place(self):
        self.none([FIRST, (0, 1), (4, 0)])
        self.none([FIRST, (0, 0), (1, 0), (3, 0)])
        # The last place has a step of its own here, and so would answer for -1.
        plan = backward_chain([SKIP] * 3)
        self.assertIs(is_way(plan, [(2, 0)]), True)
        self.none([(-1, 1)], plan)
        self.none([(-2, 0)], plan)

    def test_a_truth_in_a_step(self):
        for step in ((False, 0), (0, False), (False, False), (True, 0), (0, True), (True, True), (-1, False)):
            self.none([step])
            self.none([step, (1, 0)])
            self.none([FIRST, step])
        self.none([FIRST, (0, True)])
        self.none([FIRST, (0, 0), (True, 0)])
        self.none([(-1, False), (0, 1)])

    def test_a_number_that_is_not_whole_in_a_step(self):
        for way in ([(-1.0, 0)], [(-1, 0.0)], [(-1.0, 0), (0, 1)], [FIRST, (0.0, 1)], [FIRST, (0, 1.0)], [(0.5, 0)]):
            self.none(way)

    def test_a_list_for_a_step(self):
        self.none([[-1, 0]])
        self.none([[-1, 0], [0, 1]])
        self.none([FIRST, [0, 1]])

    def test_the_first_step_within_a_way(self):
        self.none([FIRST, FIRST])
        self.none([FIRST, (0, 0), FIRST])
        self.none([(2, 0), FIRST])
        self.none([(0, 1), FIRST, (0, 1)])
        self.none([FIRST, FIRST, (0, 1)])

    def test_steps_that_do_not_hang_together(self):
        for way in (
            [FIRST, (1, 0)], [(0, 0), (0, 1)], [(0, 1), (1, 0)], [FIRST, (0, 0), (2, 0)], [(1, 0), (1, 0)],
            [FIRST, (0, 0), (1, 1), (0, 0)], [(0, 1), (0, 0)],
        ):
            self.none(way)

    def test_all_lists_of_three_steps(self):
        for plan in small_plans(10, 40, 4):
            steps = all_steps(plan)
            for one in steps:
                for other in steps:
                    for third in steps:
                        way = [one, other, third]
                        good = led(plan, one) == other[0] and led(plan, other) == third[0]
                        self.assertIs(is_way(plan, way), good)
                        whole = good and one == FIRST and plan.nexts[led(plan, third)] == []
                        self.assertIs(is_whole_way(plan, way), whole)

    def test_all_ways(self):
        for plan in small_plans(11, 60, 4):
            for way in ways_from_first(plan):
                self.assertIs(is_way(plan, way), True)
                self.assertIs(is_whole_way(plan, way), is_stop(plan, led(plan, way[-1])))
            for place in range(len(plan.rows)):
                for way in ways_on(plan, place):
                    self.assertIs(is_way(plan, way), True)
                    self.assertIs(is_whole_way(plan, way), False)

    def test_very_long_and_very_deep(self):
        plan = ring([SKIP])
        way = [FIRST] + [(0, 0), (1, 0)] * 3000
        self.assertIs(is_way(plan, way), True)
        self.assertIs(is_whole_way(plan, way), False)
        self.assertIs(is_whole_way(plan, way + [(0, 1)]), True)
        deep = []
        for depth in range(5000):
            deep = [deep]
        for way in (deep, [FIRST, (0, deep)], [deep, FIRST]):
            self.assertIs(is_way(plan, way), False)
            self.assertIs(is_whole_way(plan, way), False)


class Places(unittest.TestCase):
    def test_places(self):
        plan = forked_plan()
        self.assertEqual(places_of(plan, []), [])
        self.assertEqual(places_of(plan, [FIRST]), [0])
        self.assertEqual(places_of(plan, [(1, 1)]), [2])
        way = [FIRST, (0, 0), (1, 1), (2, 0), (0, 0), (1, 1), (2, 0), (0, 1)]
        self.assertEqual(places_of(plan, way), [0, 1, 2, 0, 1, 2, 0, 4])

    def test_places_of_all_ways(self):
        for plan in small_plans(12, 40, 4):
            for way in ways_from_first(plan):
                self.assertEqual(places_of(plan, way), walked(plan, way))


class Shortest(unittest.TestCase):
    def check(self, plan, place, least_to, least_on):
        to = way_to(plan, place)
        self.assertIs(type(to), list)
        self.assertTrue(goes(plan, to))
        self.assertEqual((to[0], led(plan, to[-1]), len(to)), (FIRST, place, least_to))
        on = way_on(plan, place)
        self.assertIs(type(on), list)
        self.assertTrue(goes(plan, on))
        self.assertEqual(len(on), least_on)
        if on:
            self.assertEqual(on[0][0], place)
        self.assertTrue(is_stop(plan, led(plan, on[-1]) if on else place))
        self.assertTrue(all(is_way(plan, way) for way in (to, to + on)))
        self.assertTrue(is_whole_way(plan, to + on))

    def test_every_place_of_small_plans(self):
        for plan in small_plans(13, 200, 5):
            ways = ways_from_first(plan)
            for place in range(len(plan.rows)):
                least_to = min(len(way) for way in ways if led(plan, way[-1]) == place)
                least_on = min(len(way) for way in whole_ways_on(plan, place))
                self.check(plan, place, least_to, least_on)

    def test_by_hand(self):
        self.assertEqual(way_to(forked_plan(), 0), [FIRST])
        self.assertEqual(way_to(forked_plan(), 3), [FIRST, (0, 0), (1, 0)])
        self.assertEqual(way_on(forked_plan(), 3), [])
        self.assertEqual(way_on(forked_plan(), 2), [(2, 0), (0, 1)])
        self.assertEqual(way_to(Plan([SKIP], [[]]), 0), [FIRST])
        self.assertEqual(way_on(Plan([SKIP], [[]]), 0), [])

    def test_a_short_way_beside_a_long_one(self):
        # Place 0 parts to a long chain and to place 7; both come to place 7 at last, which asks its way back.
        rows = [ASK] + [SKIP] * 6 + [ASK, SKIP]
        for nexts in ([1, 7], [7, 1]):
            plan = Plan(rows, [nexts] + [[place + 1] for place in range(1, 7)] + [[0, 8], []])
            for place in range(9):
                to = 1 + min(place, 9) if place < 7 else place - 5
                on = 2 if place == 0 else 8 - place
                self.check(plan, place, to, on)

    def test_chains_of_four_hundred(self):
        for place in (0, 1, 2, 200, 398, 399):
            self.check(chain([SKIP] * 400), place, place + 1, 399 - place)
            behind = 400 - place if place else 0
            self.check(backward_chain([SKIP] * 400), place, behind + 1, 399 - behind)

    def test_a_ring_of_four_hundred(self):
        plan = ring([SKIP] * 398)
        for place in (1, 2, 200, 397, 398):
            self.check(plan, place, place + 1, 400 - place)
        self.check(plan, 0, 1, 1)
        self.check(plan, 399, 2, 0)


class Copies(unittest.TestCase):
    def test_what_is_handed_in_stays_as_it_was(self):
        plan = forked_plan()
        for thing in ([FIRST, (0, 1)], [[-1, 0]], [FIRST, (0, [1])], [], [(0, 0), (0, 0)]):
            before = copy.deepcopy(thing)
            is_way(plan, thing)
            is_whole_way(plan, thing)
            self.assertEqual(thing, before)
        way = [FIRST, (0, 1)]
        places_of(plan, way)
        self.assertEqual(way, [FIRST, (0, 1)])

    def test_told_lists_are_the_askers_own(self):
        plan = forked_plan()
        for ask in (lambda: way_to(plan, 2), lambda: way_on(plan, 2), lambda: way_on(plan, 3),
                    lambda: places_of(plan, [FIRST, (0, 0)])):
            first = ask()
            second = ask()
            self.assertEqual(first, second)
            kept = list(first)
            first.append("z")
            first.reverse()
            self.assertEqual(second, kept)
            self.assertEqual(ask(), kept)

    def test_the_plan_stays_as_it_was(self):
        for plan in small_plans(14, 30, 5):
            before = (list(plan.rows), copy.deepcopy(plan.nexts), plan.steps())
            for place in range(len(plan.rows)):
                way_to(plan, place).append(0)
                way_on(plan, place).append(0)
            self.assertEqual((plan.rows, plan.nexts, plan.steps()), before)


if __name__ == "__main__":
    unittest.main()
