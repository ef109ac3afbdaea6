"""Point 28: the bench. Points 3, 4 and 5 for it."""

import copy
import unittest
from unittest import mock

from oncedone.bench import Bench
from oncedone.choices import Choice
from oncedone.errors import TooMany, Wrong
from oncedone.moved import Moved, moved
from oncedone.plans import Plan
from tests.helper import ASK, DEED, DO, DO_AND_SPOIL, FIRST, NO_LISTS, NO_PLACES, ROW_POOL, RUN_POOL, SKIP, SPOIL, Dice
from tests.helper import chain, deeds_of, does, grown_plans, refusal, ring, small_plans, spoils

OTHER = ("times", "a", 2)
OTHERS = ("set", "y", OTHER)
THIRD = ("same", "c", "d")
THIRDS = ("set", "z", THIRD)


def form(plan):
    return (plan.rows, plan.nexts)


def shown(told):
    return (form(told.old), form(told.plan), told.origins, list(told.shelves.items()))


class ByHand:
    """Which deeds are reckoned anew: by what each row did and spoilt when a deed was reckoned last."""

    def __init__(self):
        self.last = {}
        self.fresh = []

    def reckon(self, rows):
        self.fresh = []
        for deed in dict.fromkeys(row[2] for row in rows if row[0] == "set"):
            touched = [(does(row, deed), spoils(row, deed)) for row in rows]
            if self.last.get(deed) != touched:
                self.last[deed] = touched
                self.fresh.append(deed)


class Benches(unittest.TestCase):
    def check(self, bench, rows, nexts):
        """The bench tells what a plan made anew tells."""
        self.assertEqual(form(bench.plan_now()), (rows, nexts))
        told = bench.moved()
        self.assertEqual(shown(told), shown(moved(Plan(rows, nexts))))
        self.assertEqual(form(bench.plan_now()), (rows, nexts))
        return told

    def test_kinds(self):
        bench = Bench(chain([DO, SKIP, DO]))
        self.assertIs(type(bench.plan_now()), Plan)
        self.assertIs(type(bench.moved()), Moved)
        self.assertIs(type(bench.anew()), list)
        self.assertIsNone(bench.change(1, SPOIL))

    def test_ahead_of_any_change(self):
        for plan in small_plans(701, 60, 6):
            bench = Bench(plan)
            self.check(bench, plan.rows, plan.nexts)
            self.assertEqual(bench.anew(), deeds_of(plan))

    def test_changes_back_and_forth(self):
        bench = Bench(chain([DO, SKIP, DO]))
        nexts = [[1], [2], []]
        first = self.check(bench, [DO, SKIP, DO], nexts)
        self.assertEqual(first.shelves, {DEED: "k0"})
        self.assertEqual(bench.anew(), [DEED])
        bench.change(1, SPOIL)
        self.assertEqual(self.check(bench, [DO, SPOIL, DO], nexts).shelves, {})
        self.assertEqual(bench.anew(), [DEED])
        bench.change(1, SKIP)
        self.assertEqual(shown(self.check(bench, [DO, SKIP, DO], nexts)), shown(first))
        self.assertEqual(bench.anew(), [DEED])

    def test_changes_back_and_forth_between_two_askings(self):
        bench = Bench(chain([DO, SKIP, DO]))
        bench.moved()
        bench.change(1, SPOIL)
        bench.change(0, SKIP)
        bench.change(1, SKIP)
        bench.change(0, DO)
        self.check(bench, [DO, SKIP, DO], [[1], [2], []])
        self.assertEqual(bench.anew(), [])

    def test_a_like_row(self):
        bench = Bench(chain([DO, SKIP, DO]))
        bench.moved()
        for place, row in enumerate([DO, SKIP, DO]):
            bench.change(place, row)
            self.check(bench, [DO, SKIP, DO], [[1], [2], []])
            self.assertEqual(bench.anew(), [])

    def test_a_row_that_concerns_no_deed(self):
        bench = Bench(chain([DO, SKIP, DO]))
        bench.moved()
        for row in (("tell", "a"), ("take", "c"), ("copy", "x", "a"), ("copy", "plus", 1), SKIP):
            bench.change(1, row)
            self.check(bench, [DO, row, DO], [[1], [2], []])
            self.assertEqual(bench.anew(), [])
        # The name that a row sets by the deed may become another one.
        bench.change(2, ("set", "y", DEED))
        self.check(bench, [DO, SKIP, ("set", "y", DEED)], [[1], [2], []])
        self.assertEqual(bench.anew(), [])
        # But one of its operands is spoilt.
        bench.change(2, DO_AND_SPOIL)
        self.check(bench, [DO, SKIP, DO_AND_SPOIL], [[1], [2], []])
        self.assertEqual(bench.anew(), [DEED])

    def test_just_the_deeds_that_are_concerned(self):
        rows = [DO, OTHERS, THIRDS, SKIP, DO, OTHERS, THIRDS]
        bench = Bench(chain(rows))
        bench.moved()
        self.assertEqual(bench.anew(), [DEED, OTHER, THIRD])
        for row, anew in (
            (("take", "b"), [DEED]), (("take", "c"), [DEED, THIRD]), (("take", "a"), [DEED, OTHER, THIRD]),
            (DO, [DEED, OTHER]), (OTHERS, [DEED, OTHER]), (("set", "a", THIRD), [DEED, OTHER, THIRD]),
            (("copy", "d", 1), [DEED, OTHER, THIRD]), (SKIP, [THIRD]), (SKIP, []),
        ):
            bench.change(3, row)
            rows[3] = row
            self.check(bench, rows, chain(rows).nexts)
            self.assertEqual(bench.anew(), anew, row)

    def test_a_new_deed(self):
        bench = Bench(chain([DO, SKIP, DO]))
        bench.moved()
        bench.change(1, OTHERS)
        self.check(bench, [DO, OTHERS, DO], [[1], [2], []])
        self.assertEqual(bench.anew(), [OTHER])
        # The order is that of deeds().
        bench.change(0, THIRDS)
        self.check(bench, [THIRDS, OTHERS, DO], [[1], [2], []])
        self.assertEqual(bench.anew(), [THIRD, DEED])

    def test_the_last_doing_of_a_deed_taken_away_and_brought_back(self):
        bench = Bench(chain([SKIP, DO, OTHERS]))
        bench.moved()
        bench.change(1, SKIP)
        self.check(bench, [SKIP, SKIP, OTHERS], [[1], [2], []])
        self.assertEqual(bench.anew(), [])
        bench.change(1, DO)
        self.check(bench, [SKIP, DO, OTHERS], [[1], [2], []])
        self.assertEqual(bench.anew(), [])
        # Brought back with another spoiling row, or at another place.
        bench.change(1, SPOIL)
        self.check(bench, [SKIP, SPOIL, OTHERS], [[1], [2], []])
        self.assertEqual(bench.anew(), [])
        bench.change(0, DO)
        self.check(bench, [DO, SPOIL, OTHERS], [[1], [2], []])
        self.assertEqual(bench.anew(), [DEED])
        bench.change(0, SKIP)
        bench.change(1, DO)
        self.check(bench, [SKIP, DO, OTHERS], [[1], [2], []])
        # It was reckoned last with the row at place 0.
        self.assertEqual(bench.anew(), [DEED])

    def test_a_deed_that_is_spoilt_otherwise_while_no_row_does_it(self):
        bench = Bench(chain([SKIP, DO, SKIP]))
        bench.moved()
        bench.change(1, SKIP)
        bench.change(2, SPOIL)
        bench.moved()
        self.assertEqual(bench.anew(), [])
        bench.change(1, DO)
        self.check(bench, [SKIP, DO, SPOIL], [[1], [2], []])
        self.assertEqual(bench.anew(), [DEED])

    def test_anew_ahead_of_the_first_moved(self):
        bench = Bench(chain([DO, SKIP]))
        self.assertEqual(bench.anew(), [])
        bench.change(1, OTHERS)
        self.assertEqual(bench.anew(), [])
        bench.plan_now()
        self.assertEqual(bench.anew(), [])
        bench.moved()
        self.assertEqual(bench.anew(), [DEED, OTHER])

    def test_anew_stays_until_the_next_moved(self):
        bench = Bench(chain([DO, SKIP]))
        bench.moved()
        bench.change(1, OTHERS)
        bench.change(0, SKIP)
        bench.plan_now()
        for turn in range(3):
            self.assertEqual(bench.anew(), [DEED])
        bench.moved()
        self.assertEqual(bench.anew(), [OTHER])
        bench.moved()
        self.assertEqual(bench.anew(), [])

    def test_a_changed_row_that_asks(self):
        bench = Bench(Plan([ASK, DO, SKIP, DO], [[1, 2], [3], [3], []]))
        bench.moved()
        bench.change(0, ("ask", "x"))
        self.check(bench, [("ask", "x"), DO, SKIP, DO], [[1, 2], [3], [3], []])
        self.assertEqual(bench.anew(), [])
        bench.change(2, DO)
        self.check(bench, [("ask", "x"), DO, DO, DO], [[1, 2], [3], [3], []])
        self.assertEqual(bench.anew(), [DEED])

    def test_shelves_go_by_the_names_now(self):
        bench = Bench(chain([DO, SKIP, DO]))
        bench.moved()
        bench.change(1, ("take", "k0"))
        self.assertEqual(bench.moved().shelves, {DEED: "k1"})
        self.assertEqual(bench.anew(), [])
        bench.change(1, ("tell", "k1"))
        self.assertEqual(bench.moved().shelves, {DEED: "k0"})

    def test_the_order_of_deeds_now(self):
        bench = Bench(chain([DO, OTHERS, DO, OTHERS, SKIP]))
        self.assertEqual(list(bench.moved().shelves.items()), [(DEED, "k0"), (OTHER, "k1")])
        bench.change(0, OTHERS)
        bench.change(1, DO)
        told = self.check(bench, [OTHERS, DO, DO, OTHERS, SKIP], [[1], [2], [3], [4], []])
        self.assertEqual(list(told.shelves.items()), [(OTHER, "k0"), (DEED, "k1")])
        self.assertEqual(bench.anew(), [OTHER, DEED])

    def test_thrown_changes(self):
        dice = Dice(711)
        seen = {}
        for plan in small_plans(711, 60, 6) + grown_plans(712, 60, 14, RUN_POOL):
            bench, by_hand = Bench(plan), ByHand()
            rows = list(plan.rows)
            for turn in range(12):
                for change in range(dice.below(4)):
                    place = dice.below(len(rows))
                    asking = rows[place][0] == "ask"
                    rows[place] = dice.one_of([row for row in ROW_POOL + RUN_POOL if (row[0] == "ask") == asking])
                    bench.change(place, rows[place])
                before = bench.anew()
                self.assertEqual(before, by_hand.fresh)
                self.check(bench, rows, plan.nexts)
                by_hand.reckon(rows)
                self.assertEqual(bench.anew(), by_hand.fresh)
                many = len(deeds_of(bench.plan_now()))
                seen[(len(by_hand.fresh), many)] = seen.get((len(by_hand.fresh), many), 0) + 1
        self.assertGreater(sum(times for (fresh, many), times in seen.items() if 0 < fresh < many), 100)
        self.assertGreater(sum(times for (fresh, many), times in seen.items() if 0 == fresh < many), 100)

    def test_no_other_choice_is_reckoned(self):
        made = []

        def noted(plan, deed, held=None):
            made.append(deed)
            return Choice(plan, deed, held)

        rows = [DO, OTHERS, THIRDS, SKIP, DO, OTHERS, THIRDS]
        bench = Bench(chain(rows))
        with mock.patch("oncedone.bench.Choice", noted), mock.patch("oncedone.moved.Choice", noted):
            for row in (SKIP, ("take", "b"), SKIP, SKIP, ("take", "c"), DO, ("take", "a")):
                bench.change(3, row)
                made.clear()
                bench.moved()
                self.assertEqual(made, bench.anew())

    def test_ways_of_what_a_bench_tells(self):
        bench = Bench(Plan([ASK, SKIP, SKIP, DO], [[1, 2], [3], [3], []]))
        bench.change(1, DO)
        told = bench.moved()
        way = [FIRST, (0, 1), (2, 0)]
        self.assertEqual(told.way_in(way), [FIRST, (0, 1), (3, 0), (4, 0)])
        self.assertEqual(told.way_back(told.way_in(way)), way)
        self.assertEqual(form(told.old), form(bench.plan_now()))

    def test_long(self):
        rows = [("set", "x", ("plus", "n%d" % number, 1)) for number in range(400)]
        bench = Bench(chain(rows))
        bench.moved()
        self.assertEqual(len(bench.anew()), 400)
        bench.change(200, ("take", "n7"))
        told = bench.moved()
        self.assertEqual(bench.anew(), [("plus", "n7", 1)])
        self.assertEqual(told.plan.rows, rows[:200] + [("take", "n7")] + rows[201:])
        plan = ring([SKIP] * 397 + [DO])
        bench = Bench(plan)
        self.check(bench, plan.rows, plan.nexts)
        bench.change(1, SPOIL)
        self.check(bench, [plan.rows[0], SPOIL] + plan.rows[2:], plan.nexts)


class Refused(unittest.TestCase):
    """A moved() that is refused, behind which all stays as ahead of it."""

    def test_it_changes_nothing(self):
        # 399 places with one store; a second one makes 401.
        rows = [DO, DO] + [SKIP] * 395 + [SKIP, SKIP]
        bench = Bench(chain(rows))
        first = bench.moved()
        self.assertEqual(len(first.plan.rows), 400)
        kept = copy.deepcopy(shown(first))
        self.assertEqual(bench.anew(), [DEED])
        bench.change(397, OTHERS)
        bench.change(398, OTHERS)
        for turn in range(2):
            self.assertEqual(refusal(bench.moved), (TooMany, 400))
            self.assertEqual(bench.anew(), [DEED])
            self.assertEqual(bench.plan_now().rows, rows[:397] + [OTHERS, OTHERS])
        self.assertEqual(shown(first), kept)
        # What it reckoned counts for nothing: the new deed is reckoned now.
        bench.change(1, SKIP)
        told = bench.moved()
        self.assertEqual(len(told.plan.rows), 400)
        self.assertEqual(bench.anew(), [DEED, OTHER])

    def test_it_forgets_what_it_reckoned_and_keeps_what_was(self):
        rows = [DO, SKIP, DO] + [SKIP] * 396
        bench = Bench(chain(rows))
        bench.moved()
        # Spoilt between: reckoned anew by a moved() that is refused for another deed's stores.
        bench.change(1, SPOIL)
        for place in (10, 11, 20, 21):
            bench.change(place, OTHERS if place < 20 else THIRDS)
        self.assertEqual(refusal(bench.moved), (TooMany, 400))
        self.assertEqual(bench.anew(), [DEED])
        for place in (10, 11, 20, 21):
            bench.change(place, SKIP)
        bench.change(1, SKIP)
        # As it was when it was reckoned last by a moved() that was told.
        self.assertEqual(shown(bench.moved()), shown(moved(chain(rows))))
        self.assertEqual(bench.anew(), [])
        bench.change(1, SPOIL)
        bench.moved()
        self.assertEqual(bench.anew(), [DEED])

    def test_the_first_one_is_refused(self):
        bench = Bench(chain([DO] + [SKIP] * 398 + [DO]))
        self.assertEqual(refusal(bench.moved), (TooMany, 400))
        self.assertEqual(bench.anew(), [])
        bench.change(399, OTHERS)
        bench.moved()
        self.assertEqual(bench.anew(), [DEED, OTHER])


class Refusals(unittest.TestCase):
    def setUp(self):
        self.plan = Plan([ASK, DO, SKIP, DO], [[1, 2], [3], [3], []])
        self.bench = Bench(self.plan)

    def test_no_plan(self):
        for thing in NO_LISTS + [[], [SKIP], ([SKIP], [[]]), Plan, (self.plan,), [self.plan], self.bench,
                                 moved(self.plan)]:
            self.assertEqual(refusal(Bench, thing), (Wrong, 0))

    def test_no_place(self):
        for place in NO_PLACES + [4, 5, 400]:
            for row in (SKIP, ASK, None, ["skip"]):
                self.assertEqual(refusal(self.bench.change, place, row), (Wrong, 0))

    def test_no_row(self):
        for thing in NO_LISTS + [
            [], ["skip"], ("skip", 1), ("Skip",), "skip", ("take",), ("take", 1), ("take", "A"), ("copy", "a"),
            ("copy", "a", True), ("set", "a", ("plus", "a")), ("set", "a", ["plus", "a", 1]), ("set", 1, DEED), DEED,
            ("ask",), ("ask", "a", "b"), ("ask", -1), ("tell", 10 ** 12), ([], {}), ({},),
        ]:
            for place in range(4):
                with self.subTest(thing=thing, place=place):
                    self.assertEqual(refusal(self.bench.change, place, thing), (Wrong, 1))

    def test_a_row_that_asks_for_one_that_does_not(self):
        for place in (1, 2, 3):
            for row in (ASK, ("ask", 0), ("ask", "x")):
                self.assertEqual(refusal(self.bench.change, place, row), (Wrong, 1))
        for row in (SKIP, DO, ("tell", "a"), ("take", "q"), ("copy", "q", 1)):
            self.assertEqual(refusal(self.bench.change, 0, row), (Wrong, 1))
        # What asks is the row as it is now.
        bench = Bench(self.plan)
        bench.change(0, ("ask", 1))
        self.assertEqual(refusal(bench.change, 0, SKIP), (Wrong, 1))

    def test_a_refusal_changes_nothing(self):
        self.bench.moved()
        before = (copy.deepcopy(form(self.bench.plan_now())), self.bench.anew())
        for place, row in ((9, SKIP), (0, SKIP), (1, ASK), (True, SKIP), (1, None), (-1, DO), (2, ["skip"])):
            self.assertIsNotNone(refusal(self.bench.change, place, row))
            self.assertEqual((form(self.bench.plan_now()), self.bench.anew()), before)
        self.assertEqual(shown(self.bench.moved()), shown(moved(self.plan)))
        self.assertEqual(self.bench.anew(), [])
        self.assertIsNone(refusal(self.bench.change, 2, DO))
        self.assertEqual(self.bench.plan_now().rows, [ASK, DO, DO, DO])


class Copies(unittest.TestCase):
    def test_the_plan_handed_in_stays(self):
        plan = chain([DO, SKIP, DO])
        bench = Bench(plan)
        bench.change(1, SPOIL)
        bench.moved()
        self.assertEqual(form(plan), ([DO, SKIP, DO], [[1], [2], []]))
        other = Bench(plan)
        self.assertEqual(form(other.plan_now()), form(plan))
        self.assertEqual(form(bench.plan_now()), ([DO, SPOIL, DO], [[1], [2], []]))

    def test_what_made_the_plan_may_be_changed(self):
        rows, nexts = [DO, SKIP, DO], [[1], [2], []]
        bench = Bench(Plan(rows, nexts))
        rows.clear()
        nexts[0].clear()
        self.assertEqual(form(bench.plan_now()), ([DO, SKIP, DO], [[1], [2], []]))
        bench.change(1, SPOIL)
        self.assertEqual(form(bench.plan_now()), ([DO, SPOIL, DO], [[1], [2], []]))

    def test_plans_and_moved_plans_that_were_told_stay(self):
        dice = Dice(721)
        for plan in small_plans(721, 40, 5):
            bench = Bench(plan)
            told = []
            for turn in range(6):
                now, then = bench.plan_now(), bench.moved()
                told.append((now, then, copy.deepcopy(form(now)), copy.deepcopy(shown(then)), then.way_in([FIRST])))
                place = dice.below(len(plan.rows))
                asking = plan.rows[place][0] == "ask"
                bench.change(place, dice.one_of([row for row in ROW_POOL if (row[0] == "ask") == asking]))
                bench.moved()
            for now, then, was, had, way in told:
                self.assertEqual((form(now), shown(then), then.way_in([FIRST])), (was, had, way))

    def test_a_moved_plan_told_has_lists_of_its_own(self):
        bench = Bench(chain([DO, SKIP, DO]))
        first = bench.moved()
        wanted = copy.deepcopy(shown(first))
        first.origins.clear()
        first.shelves.clear()
        first.plan.rows.clear()
        first.plan.nexts[0].clear()
        self.assertEqual(shown(bench.moved()), wanted)

    def test_anew_is_the_askers_own(self):
        bench = Bench(chain([DO, OTHERS]))
        bench.moved()
        first = bench.anew()
        first.clear()
        self.assertEqual(bench.anew(), [DEED, OTHER])
        second = bench.anew()
        bench.moved()
        self.assertEqual((second, bench.anew()), ([DEED, OTHER], []))

    def test_two_benches_of_one_plan(self):
        plan = chain([DO, SKIP, DO])
        one, other = Bench(plan), Bench(plan)
        one.moved()
        self.assertEqual((one.anew(), other.anew()), ([DEED], []))
        one.change(1, SPOIL)
        self.assertEqual(form(other.plan_now()), form(plan))
        other.moved()
        self.assertEqual(other.anew(), [DEED])
        self.assertEqual(shown(other.moved()), shown(moved(plan)))


if __name__ == "__main__":
    unittest.main()
