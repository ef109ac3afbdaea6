"""Point 27: rounds of forwarding and moving. Points 3 and 5 for these."""

import copy
import unittest

from oncedone.copies import forwarded
from oncedone.errors import TooMany
from oncedone.moved import moved
from oncedone.plans import Plan
from oncedone.rounds import settled
from oncedone.runs import counts, run
from tests.helper import ASK, COPY_POOL, DEED, DO, RUN_POOL, SKIP, Dice, chain, grown_plans, refusal, small_plans

ROUND_POOL = COPY_POOL + RUN_POOL + (DO, DO, ("set", "y", DEED))


def nested(depth):
    """Two rows of deeds, each on what the one ahead set: each round shows one more pair to be alike."""
    rows = [("take", "a"), ("take", "b")]
    ones, others = "a", "a"
    for k in range(depth):
        one, other = "x%d" % k, "y%d" % k
        rows.extend([("set", one, ("plus", ones, "b")), ("set", other, ("plus", others, "b"))])
        ones, others = one, other
    return rows + [("tell", ones), ("tell", others)]


def one_round(plan):
    return moved(forwarded(plan)).plan


def form(plan):
    return (plan.rows, plan.nexts)


class Settled(unittest.TestCase):
    def check_form(self, told):
        self.assertIs(type(told), tuple)
        self.assertEqual([type(part) for part in told], [Plan, int, bool])

    def test_a_plan_that_a_round_leaves_as_it_is(self):
        for rows in ([SKIP], [DO], [("copy", "a", "a")], [("copy", "a", "b"), ("tell", "b")], [DO, ("take", "a"), DO]):
            for most in range(1, 9):
                told = settled(chain(rows), most)
                self.check_form(told)
                self.assertEqual((form(told[0]), told[1], told[2]), (form(chain(rows)), 0, True))

    def test_a_pair_of_deeds(self):
        plan = chain([DO, ("set", "y", DEED), ("tell", "y")])
        wanted = chain([("set", "k0", DEED), ("copy", "x", "k0"), ("copy", "y", "k0"), ("tell", "k0")])
        # The first round puts the copies in, the second one reads them, the third changes nothing.
        one = one_round(plan)
        told = settled(plan, 1)
        self.check_form(told)
        self.assertEqual((form(told[0]), told[1], told[2]), (form(one), 1, False))
        for most in (3, 4, 8):
            told = settled(plan, most)
            self.assertEqual((form(told[0]), told[1], told[2]), (form(wanted), 2, True))
        told = settled(plan, 2)
        self.assertEqual((form(told[0]), told[1], told[2]), (form(wanted), 2, False))

    def test_copies_alone(self):
        plan = chain([("copy", "a", 5), ("tell", "a")])
        wanted = chain([("copy", "a", 5), ("tell", 5)])
        told = settled(plan, 1)
        self.assertEqual((form(told[0]), told[1], told[2]), (form(wanted), 1, False))
        for most in range(2, 9):
            told = settled(plan, most)
            self.assertEqual((form(told[0]), told[1], told[2]), (form(wanted), 1, True))

    def test_deeds_that_only_forwarding_shows_to_be_alike(self):
        plan = chain([("copy", "c", "a"), DO, ("set", "y", ("plus", "c", "b")), ("tell", "y")])
        told = settled(plan, 8)
        self.assertEqual(told[0].rows, [
            ("copy", "c", "a"), ("set", "k0", DEED), ("copy", "x", "k0"), ("copy", "y", "k0"), ("tell", "k0"),
        ])
        self.assertEqual(told[1:], (2, True))
        self.assertEqual(len(moved(plan).plan.rows), 4)

    def test_several_rounds_and_cut_off(self):
        for depth in range(1, 7):
            plan = chain(nested(depth))
            for most in range(1, 9):
                told = settled(plan, most)
                self.check_form(told)
                self.assertEqual(told[1:], (min(most, depth + 1), depth + 1 < most))
                wanted = plan
                for k in range(told[1]):
                    wanted = one_round(wanted)
                self.assertEqual(form(told[0]), form(wanted))

    def test_a_longer_one_is_cut_off_by_8(self):
        self.assertEqual(settled(chain(nested(8)), 8)[1:], (8, False))
        self.assertEqual(settled(chain(nested(7)), 8)[1:], (8, False))

    def test_only_the_nexts_or_only_the_rows_change(self):
        # The rows of the moved plan are others wherever the nexts are; a change of rows alone counts.
        plan = Plan([("copy", "q", 1), ("ask", "q"), SKIP], [[1], [2, 2], []])
        told = settled(plan, 8)
        self.assertEqual(form(told[0]), ([("copy", "q", 1), ("ask", 1), SKIP], plan.nexts))
        self.assertEqual(told[1:], (1, True))

    def test_round_by_round(self):
        seen = set()
        for plan in small_plans(601, 150, 5, ROUND_POOL) + grown_plans(602, 100, 16, ROUND_POOL):
            plans = [plan]
            while len(plans) < 9:
                plans.append(one_round(plans[-1]))
            for most in (1, 2, 3, 5, 8):
                told = settled(plan, most)
                still = [k for k in range(most) if form(plans[k]) == form(plans[k + 1])]
                many = still[0] if still else most
                self.assertEqual((form(told[0]), told[1], told[2]), (form(plans[many]), many, bool(still)))
                seen.add((told[1], told[2]))
        self.assertTrue({(0, True), (1, True), (2, True), (1, False), (2, False)} <= seen)


class TooManyPlaces(unittest.TestCase):
    def test_in_the_first_round(self):
        plan = chain([DO] + [SKIP] * 398 + [DO])
        for most in (1, 2, 8):
            self.assertEqual(refusal(settled, plan, most), (TooMany, 400))

    def test_in_a_later_round(self):
        # Each of the first rounds has one place more than the one ahead.
        rows = nested(3)
        for many, first in ((400, 1), (399, 2), (398, 3)):
            plan = chain([SKIP] * (many - len(rows)) + rows)
            for most in range(1, 9):
                wanted = (TooMany, 400) if most >= first else None
                self.assertEqual(refusal(settled, plan, most), wanted)
        plan = chain([SKIP] * (397 - len(rows)) + rows)
        self.assertEqual(len(settled(plan, 8)[0].rows), 400)

    def test_400_places_that_stay(self):
        plan = chain([SKIP] * 399 + [DO])
        self.assertEqual(settled(plan, 8)[1:], (0, True))


class TheWhole(unittest.TestCase):
    def test_runs(self):
        dice = Dice(611)
        ended = fewer = 0
        for plan in small_plans(611, 120, 5, ROUND_POOL) + grown_plans(612, 200, 20, ROUND_POOL):
            told = settled(plan, 1 + dice.below(8))[0]
            for turn in range(4):
                start = {name: dice.below(4) for name in ("a", "b", "c", "q", "x", "k0", "k1", "k3") if dice.below(2)}
                taken = [dice.below(4) for k in range(dice.below(9))]
                old = run(plan, start, taken, 100)
                new = run(told, start, taken, 4000)
                if old[3]:
                    ended += 1
                    self.assertEqual((new[0], new[3]), (old[0], True))
                    for name in plan.names():
                        self.assertEqual(new[2].get(name, 0), old[2].get(name, 0))
                    many = sum(counts(told, new[1]).values())
                    most = sum(counts(plan, old[1]).values())
                    self.assertLessEqual(many, most)
                    fewer += many < most
        self.assertGreater(ended, 300)
        self.assertGreater(fewer, 30)

    def test_nested(self):
        for depth in (1, 3, 6):
            plan = chain(nested(depth))
            told = settled(plan, 8)[0]
            old, new = run(plan, {}, [3, 4], 99), run(told, {"k0": 9}, [3, 4], 99)
            self.assertEqual((new[0], new[3]), (old[0], True))
            self.assertEqual(new[0], [3 + 4 * depth] * 2)
            self.assertEqual(sum(counts(plan, old[1]).values()), 2 * depth)
            self.assertEqual(sum(counts(told, new[1]).values()), depth)


class Copies(unittest.TestCase):
    def test_the_plan_stays(self):
        for plan in small_plans(621, 60, 5, ROUND_POOL) + [Plan([ASK, DO, SKIP, DO], [[1, 2], [3], [3], []])]:
            before = (list(plan.rows), copy.deepcopy(plan.nexts), plan.steps(), plan.deeds())
            first = settled(plan, 8)
            wanted = copy.deepcopy(form(first[0]))
            second = settled(plan, 8)
            self.assertEqual((form(second[0]), second[1:]), (wanted, first[1:]))
            first[0].rows.clear()
            first[0].nexts[0].append(9)
            self.assertEqual(form(second[0]), wanted)
            self.assertEqual((plan.rows, plan.nexts, plan.steps(), plan.deeds()), before)


if __name__ == "__main__":
    unittest.main()
