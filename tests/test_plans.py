"""Point 8: plans. Point 4: what Plan refuses. Point 9: steps and their kin. Point 3 for all of these."""

import copy
import itertools
import unittest

from oncedone.errors import NoThing, NoWay, TooMany, Wrong
from oncedone.plans import Plan
from tests.helper import ASK, FIRST, NO_LISTS, NO_PLACES, SKIP, Dice, chain, backward_chain, refusal, ring
from tests.helper import small_plans, thrown_nets

NO_ROWS = [
    None, True, 0, "skip", (), [], {}, ["skip"], ("skip", 1), ("set", "a", 1), ("set", "a", ["plus", "a", 1]),
    ("set", "a", ("plus", "a", True)), ("ask",), ("ask", "A"), ("take", 1), ("copy", "a"), ("tell", 10 ** 12), ("go",),
    (["skip"],), [("skip",)],
]


def long_nexts(many):
    return [[place + 1] for place in range(many - 1)] + [[]]


class Rows(unittest.TestCase):
    def test_no_list(self):
        for rows in NO_LISTS + [(SKIP,), "skip", {0: SKIP}]:
            with self.subTest(rows=rows):
                self.assertEqual(refusal(Plan, rows, [[]]), (Wrong, 0))

    def test_none(self):
        self.assertEqual(refusal(Plan, [], []), (Wrong, 0))
        self.assertEqual(refusal(Plan, [], [[]]), (Wrong, 0))

    def test_one_to_four_hundred(self):
        for many in (1, 2, 3, 399, 400):
            plan = Plan([SKIP] * many, long_nexts(many))
            self.assertEqual(len(plan.rows), many)

    def test_too_many(self):
        for many in (401, 402, 1000):
            self.assertEqual(refusal(Plan, [SKIP] * many, long_nexts(many)), (TooMany, 400))

    def test_too_many_is_asked_ahead_of_the_rows(self):
        self.assertEqual(refusal(Plan, [None] * 401, long_nexts(401)), (TooMany, 400))
        self.assertEqual(refusal(Plan, [None] * 400, long_nexts(400)), (NoThing, 0))

    def test_one_that_is_no_row(self):
        for wrong in NO_ROWS:
            for at in range(4):
                rows = [SKIP] * 4
                rows[at] = wrong
                with self.subTest(rows=rows):
                    self.assertEqual(refusal(Plan, rows, long_nexts(4)), (NoThing, at))

    def test_two_that_are_no_rows(self):
        for wrong in NO_ROWS:
            for one, other in itertools.combinations(range(4), 2):
                rows = [SKIP] * 4
                rows[one] = wrong
                rows[other] = None
                self.assertEqual(refusal(Plan, rows, long_nexts(4)), (NoThing, one))

    def test_the_last_of_four_hundred(self):
        rows = [SKIP] * 399 + [("skip", 0)]
        self.assertEqual(refusal(Plan, rows, long_nexts(400)), (NoThing, 399))


class Nexts(unittest.TestCase):
    def test_no_list(self):
        for nexts in NO_LISTS + [([],), "[]"]:
            with self.subTest(nexts=nexts):
                self.assertEqual(refusal(Plan, [SKIP], nexts), (Wrong, 1))

    def test_another_number(self):
        for nexts in ([], [[1]], [[1], [2]], [[1], [2], [], []], [[1], [2], [3], []], [None, None], [None] * 4):
            with self.subTest(nexts=nexts):
                self.assertEqual(refusal(Plan, [SKIP] * 3, nexts), (Wrong, 1))

    def test_another_number_is_never_too_many(self):
        self.assertEqual(refusal(Plan, [SKIP] * 400, long_nexts(401)), (Wrong, 1))
        self.assertEqual(refusal(Plan, [SKIP] * 3, long_nexts(500)), (Wrong, 1))

    def test_inner_lists_that_are_none(self):
        for wrong in NO_LISTS + [(1,), (2,), "1", {2: 2}]:
            for at in range(3):
                nexts = [[1], [2], []]
                nexts[at] = wrong
                with self.subTest(nexts=nexts):
                    self.assertEqual(refusal(Plan, [SKIP] * 3, nexts), (NoThing, at))
                rows = [SKIP] * 3
                rows[at] = ASK
                self.assertEqual(refusal(Plan, rows, nexts), (NoThing, at))

    def test_how_many_next_places(self):
        for row in (SKIP, ("tell", "ask"), ("copy", "ask", "ask"), ("take", "ask"), ("set", "a", ("plus", "a", 1))):
            self.assertIsNone(refusal(Plan, [row, SKIP], [[1], []]))
            self.assertIsNone(refusal(Plan, [row], [[]]))
            for wrong in ([1, 1], [0, 1], [1, 1, 1]):
                self.assertEqual(refusal(Plan, [row, SKIP], [wrong, []]), (NoThing, 0))
        for row in (ASK, ("ask", 0), ("ask", "ask"), ("ask", "skip")):
            for right in ([1, 1], [0, 1], [1, 0]):
                self.assertIsNone(refusal(Plan, [row, SKIP], [right, []]))
            for wrong in ([], [1], [1, 1, 1], [0, 1, 1, 1]):
                self.assertEqual(refusal(Plan, [row, SKIP], [wrong, []]), (NoThing, 0))

    def test_no_places(self):
        for wrong in NO_PLACES + [2, 3, 400]:
            with self.subTest(wrong=wrong):
                self.assertEqual(refusal(Plan, [SKIP, SKIP], [[wrong], []]), (NoThing, 0))
                self.assertEqual(refusal(Plan, [ASK, SKIP], [[wrong, 1], []]), (NoThing, 0))
                self.assertEqual(refusal(Plan, [ASK, SKIP], [[1, wrong], []]), (NoThing, 0))
                self.assertEqual(refusal(Plan, [SKIP, SKIP], [[1], [wrong]]), (NoThing, 1))

    def test_the_first_of_several(self):
        wrongs = [(), [4], [1, 1], [True], None]
        for one, other in itertools.combinations(range(4), 2):
            for wrong in wrongs:
                for last in wrongs:
                    nexts = long_nexts(4)
                    nexts[one] = wrong
                    nexts[other] = last
                    self.assertEqual(refusal(Plan, [SKIP] * 4, nexts), (NoThing, one))

    def test_the_first_place_goes_by_the_list_and_not_by_the_kind_of_fault(self):
        self.assertEqual(refusal(Plan, [SKIP] * 3, [[1], [9], None]), (NoThing, 1))
        self.assertEqual(refusal(Plan, [SKIP] * 3, [[1, 2], None, [9]]), (NoThing, 0))


def told_by_hand(nexts):
    """The first place that isn't come to from place 0 or from which no stop is come to; None for none."""
    many = len(nexts)
    come = [[one == other or other in nexts[one] for other in range(many)] for one in range(many)]
    for between in range(many):
        for one in range(many):
            for other in range(many):
                come[one][other] = come[one][other] or (come[one][between] and come[between][other])
    for place in range(many):
        if not come[0][place] or not any(come[place][stop] and not nexts[stop] for stop in range(many)):
            return place
    return None


class Ways(unittest.TestCase):
    def check(self, rows, nexts):
        first = told_by_hand(nexts)
        self.assertEqual(refusal(Plan, rows, nexts), None if first is None else (NoWay, first), (rows, nexts))

    def test_all_plans_of_one_two_and_three_places(self):
        for many in (1, 2, 3):
            places = range(many)
            choices = [(SKIP, [])] + [(SKIP, [place]) for place in places]
            choices += [(ASK, [one, other]) for one in places for other in places]
            for chosen in itertools.product(choices, repeat=many):
                self.check([row for row, following in chosen], [following for row, following in chosen])

    def test_thrown_plans(self):
        dice = Dice(8)
        for throw in range(3000):
            self.check(*thrown_nets(dice, 1 + dice.below(9), (SKIP, ASK, ASK)))

    def test_not_come_to(self):
        self.assertEqual(refusal(Plan, [SKIP, SKIP], [[], []]), (NoWay, 1))
        self.assertEqual(refusal(Plan, [SKIP, SKIP, SKIP], [[2], [2], []]), (NoWay, 1))
        self.assertEqual(refusal(Plan, [SKIP] * 4, [[3], [2], [1], []]), (NoWay, 1))
        self.assertEqual(refusal(Plan, [SKIP] * 4, [[1], [], [3], []]), (NoWay, 2))

    def test_no_stop_is_come_to(self):
        self.assertEqual(refusal(Plan, [SKIP], [[0]]), (NoWay, 0))
        self.assertEqual(refusal(Plan, [ASK], [[0, 0]]), (NoWay, 0))
        self.assertEqual(refusal(Plan, [ASK, SKIP, SKIP], [[1, 2], [], [2]]), (NoWay, 2))
        self.assertEqual(refusal(Plan, [ASK, SKIP, SKIP], [[1, 2], [1], []]), (NoWay, 1))

    def test_the_first_of_both_kinds(self):
        self.assertEqual(refusal(Plan, [ASK, SKIP, SKIP, SKIP], [[1, 3], [1], [3], []]), (NoWay, 1))
        self.assertEqual(refusal(Plan, [ASK, SKIP, SKIP, SKIP], [[2, 3], [3], [2], []]), (NoWay, 1))
        self.assertEqual(refusal(Plan, [SKIP, SKIP], [[0], []]), (NoWay, 0))

    def test_place_0_is_come_to_and_a_stop_comes_to_itself(self):
        self.assertIsNone(refusal(Plan, [SKIP], [[]]))
        self.assertIsNone(refusal(Plan, [ASK, SKIP], [[0, 1], []]))

    def test_a_chain_of_four_hundred(self):
        rows = [SKIP] * 400
        for make in (chain, backward_chain):
            self.assertEqual(len(make(rows).steps()), 400)

    def test_a_chain_of_four_hundred_with_one_place_that_is_not_come_to(self):
        for missed in (1, 2, 200, 398):
            nexts = long_nexts(400)
            nexts[missed - 1] = [missed + 1]
            self.assertEqual(refusal(Plan, [SKIP] * 400, nexts), (NoWay, missed))
        nexts = long_nexts(400)
        nexts[398] = []
        self.assertEqual(refusal(Plan, [SKIP] * 400, nexts), (NoWay, 399))

    def test_a_ring_of_four_hundred(self):
        nexts = [[(place + 1) % 400] for place in range(400)]
        self.assertEqual(refusal(Plan, [SKIP] * 400, nexts), (NoWay, 0))
        self.assertEqual(len(ring([SKIP] * 398).rows), 400)


class Order(unittest.TestCase):
    def test_rows_come_first(self):
        for rows, wanted in (
            (None, (Wrong, 0)), ([], (Wrong, 0)), ([SKIP] * 401, (TooMany, 400)), ([SKIP, None], (NoThing, 1)),
            ([None, SKIP], (NoThing, 0)),
        ):
            for nexts in (None, [], [[]], [None, None], [[], []], [[0], [0]], [[], None], [[9], []], [[]] * 401):
                self.assertEqual(refusal(Plan, rows, nexts), wanted)

    def test_the_number_comes_ahead_of_the_inner_lists(self):
        self.assertEqual(refusal(Plan, [SKIP, SKIP], [None]), (Wrong, 1))
        self.assertEqual(refusal(Plan, [SKIP, SKIP], [None, None, None]), (Wrong, 1))

    def test_no_way_comes_last(self):
        # Place 1 isn't come to, nor is a stop come to from place 0.
        self.assertEqual(refusal(Plan, [SKIP] * 3, [[0], [2], [3]]), (NoThing, 2))
        self.assertEqual(refusal(Plan, [SKIP] * 3, [[0], [2], []]), (NoWay, 0))
        self.assertEqual(refusal(Plan, [SKIP] * 3, [[2], [2], [2, 2]]), (NoThing, 2))
        self.assertEqual(refusal(Plan, [SKIP] * 3, [[2], [2], []]), (NoWay, 1))

    def test_what_was_refused_is_taken_as_soon_as_it_is_right(self):
        rows = [SKIP, None]
        nexts = [[1], None]
        before = copy.deepcopy((rows, nexts))
        self.assertEqual(refusal(Plan, rows, nexts), (NoThing, 1))
        self.assertEqual((rows, nexts), before)
        rows[1] = SKIP
        self.assertEqual(refusal(Plan, rows, nexts), (NoThing, 1))
        nexts[1] = [1]
        self.assertEqual(refusal(Plan, rows, nexts), (NoWay, 0))
        nexts[1] = []
        self.assertEqual(Plan(rows, nexts).nexts, [[1], []])


# Both nexts of place 0 the same one, a loop of 2 and 3, a step back to place 0, a deed done by two rows.
def wide_plan():
    return Plan([
        ("ask", "q"), ("set", "m", ("plus", "a", "b")), ("ask", "m"), ("set", "a", ("plus", "b", "a")), ("ask", 3),
        ("set", "zz", ("plus", "a", "b")), ("set", "c", ("less", 3, "zz")), ("tell", "told"), ("copy", "k0", "m"),
    ], [[1, 1], [2], [3, 4], [2], [0, 5], [6], [7], [8], []])


def forked_plan():
    return Plan([ASK, ASK, SKIP, SKIP, SKIP], [[1, 4], [3, 2], [0], [], []])


class Kin(unittest.TestCase):
    def test_fields(self):
        plan = Plan([ASK, SKIP], [[0, 1], []])
        self.assertEqual(plan.rows, [ASK, SKIP])
        self.assertEqual(plan.nexts, [[0, 1], []])
        self.assertIs(type(plan.rows), list)
        self.assertIs(type(plan.nexts), list)
        self.assertEqual([type(following) for following in plan.nexts], [list, list])

    def test_steps(self):
        self.assertEqual(Plan([SKIP], [[]]).steps(), [FIRST])
        self.assertEqual(wide_plan().steps(), [
            (-1, 0), (0, 0), (0, 1), (1, 0), (2, 0), (2, 1), (3, 0), (4, 0), (4, 1), (5, 0), (6, 0), (7, 0),
        ])
        self.assertEqual(forked_plan().steps(), [(-1, 0), (0, 0), (0, 1), (1, 0), (1, 1), (2, 0)])

    def test_leads_to(self):
        told = [forked_plan().leads_to(step) for step in [(-1, 0), (0, 0), (0, 1), (1, 0), (1, 1), (2, 0)]]
        self.assertEqual(told, [0, 1, 4, 3, 2, 0])
        # The first step isn't the step of the last place.
        self.assertEqual(backward_chain([SKIP] * 3).leads_to(FIRST), 0)

    def test_steps_into(self):
        told = [forked_plan().steps_into(place) for place in range(5)]
        self.assertEqual(told, [[(-1, 0), (2, 0)], [(0, 0)], [(1, 1)], [(1, 0)], [(0, 1)]])
        told = [wide_plan().steps_into(place) for place in range(6)]
        self.assertEqual(told, [[(-1, 0), (4, 0)], [(0, 0), (0, 1)], [(1, 0), (3, 0)], [(2, 0)], [(2, 1)], [(4, 1)]])

    def test_steps_into_a_place_with_many(self):
        # Handed in behind one another, told by place and at.
        plan = Plan([ASK, ASK, ASK, ASK, SKIP], [[3, 1], [2, 3], [3, 3], [4, 3], []])
        self.assertEqual(plan.steps_into(3), [(0, 0), (1, 1), (2, 0), (2, 1), (3, 1)])

    def test_stops(self):
        self.assertEqual(forked_plan().stops(), [3, 4])
        self.assertEqual(wide_plan().stops(), [8])
        self.assertEqual(Plan([SKIP], [[]]).stops(), [0])
        self.assertEqual(Plan([ASK, SKIP, ASK, SKIP, SKIP], [[2, 1], [], [4, 3], [], []]).stops(), [1, 3, 4])

    def test_deeds(self):
        self.assertEqual(wide_plan().deeds(), [("plus", "a", "b"), ("plus", "b", "a"), ("less", 3, "zz")])
        self.assertEqual(forked_plan().deeds(), [])
        # By place, not by how they are come to.
        rows = [SKIP, ("set", "a", ("same", 1, 1)), ("set", "a", ("plus", 1, 1)), ("set", "b", ("plus", 1, 1))]
        self.assertEqual(backward_chain(rows).deeds(), [("plus", 1, 1), ("same", 1, 1)])

    def test_names(self):
        self.assertEqual(wide_plan().names(), ["a", "b", "c", "k0", "m", "q", "told", "zz"])
        self.assertEqual(Plan([SKIP], [[]]).names(), [])
        for row, wanted in (
            (("set", "c", ("plus", "b", "a")), ["a", "b", "c"]), (("set", "a", ("plus", "a", "a")), ["a"]),
            (("set", "plus", ("plus", 1, 2)), ["plus"]), (("copy", "b", "a"), ["a", "b"]), (("copy", "b", 1), ["b"]),
            (("take", "set"), ["set"]), (("tell", "x9"), ["x9"]), (("tell", 9), []), (("tell", "tell"), ["tell"]),
        ):
            self.assertEqual(Plan([row], [[]]).names(), wanted)
        self.assertEqual(Plan([("ask", "z"), ("ask", "b10"), ("tell", "b9")], [[1, 1], [2, 2], []]).names(),
                         ["b10", "b9", "z"])

    def test_all_of_small_plans(self):
        for plan in small_plans(9, 300, 7):
            steps = [(place, at) for place in range(len(plan.rows)) for at in (0, 1) if at < len(plan.nexts[place])]
            steps = [FIRST] + steps
            self.assertEqual(plan.steps(), steps)
            for step in steps[1:]:
                self.assertEqual(plan.leads_to(step), plan.nexts[step[0]][step[1]])
            for place in range(len(plan.rows)):
                self.assertEqual(plan.steps_into(place), [step for step in steps if plan.leads_to(step) == place])
            self.assertEqual(plan.stops(), [place for place in range(len(plan.rows)) if plan.nexts[place] == []])


def told_of(plan):
    return (
        list(plan.rows), copy.deepcopy(plan.nexts), plan.steps(), [plan.leads_to(step) for step in plan.steps()],
        [plan.steps_into(place) for place in range(len(plan.rows))], plan.stops(), plan.deeds(), plan.names(),
    )


class Copies(unittest.TestCase):
    def test_what_is_handed_in_stays_as_it_was(self):
        rows = list(wide_plan().rows)
        nexts = copy.deepcopy(wide_plan().nexts)
        before = copy.deepcopy((rows, nexts))
        told_of(Plan(rows, nexts))
        self.assertEqual((rows, nexts), before)

    def test_what_is_handed_in_may_be_changed_behind_the_call(self):
        rows = list(wide_plan().rows)
        nexts = copy.deepcopy(wide_plan().nexts)
        plan = Plan(rows, nexts)
        before = told_of(plan)
        rows[1] = ("take", "other")
        rows.reverse()
        rows.append(SKIP)
        for following in nexts:
            following.reverse()
            following.append(7)
        nexts[0][0] = 8
        nexts.reverse()
        nexts.pop()
        self.assertEqual(told_of(plan), before)
        rows.clear()
        nexts.clear()
        self.assertEqual(told_of(plan), before)

    def test_one_inner_list_for_several_places(self):
        following = [1]
        stop = []
        plan = Plan([ASK, SKIP, SKIP, SKIP], [[1, 2], stop, [3], stop])
        stop.append(0)
        following.append(2)
        self.assertEqual(plan.nexts, [[1, 2], [], [3], []])
        self.assertEqual(plan.stops(), [1, 3])

    def test_the_same_lists_may_make_two_plans(self):
        rows = [ASK, SKIP]
        nexts = [[0, 1], []]
        one = Plan(rows, nexts)
        nexts[0][0] = 1
        other = Plan(rows, nexts)
        self.assertEqual((one.leads_to((0, 0)), other.leads_to((0, 0))), (0, 1))
        self.assertEqual((one.steps_into(0), other.steps_into(0)), ([FIRST, (0, 0)], [FIRST]))

    def test_a_told_list_that_is_changed_changes_no_later_answer(self):
        plan = wide_plan()
        before = told_of(plan)
        asks = [plan.steps, plan.stops, plan.deeds, plan.names]
        asks += [lambda place=place: plan.steps_into(place) for place in range(len(plan.rows))]
        for ask in asks:
            first = ask()
            second = ask()
            kept = list(second)
            first.append("z")
            first.reverse()
            self.assertEqual(second, kept)
            second.clear()
            self.assertEqual(ask(), kept)
            self.assertEqual(told_of(plan), before)

    def test_who_asks_twice_is_told_the_same(self):
        for plan in small_plans(3, 50, 6):
            self.assertEqual(told_of(plan), told_of(plan))


if __name__ == "__main__":
    unittest.main()
