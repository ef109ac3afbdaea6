"""Points 21 and 22: the moved plan, and ways in it and back. Points 3, 4 and 5 for these."""

import copy
import unittest

from oncedone.brinks import Brinks
from oncedone.choices import Choice
from oncedone.errors import NoThing, TooMany, Wrong
from oncedone.moved import Moved, moved
from oncedone.plans import Plan
from oncedone.runs import counts, run
from oncedone.ways import way_on, way_to
from tests.helper import ASK, DEED, DO, DO_AND_SPOIL, FIRST, NO_LISTS, NO_PLACES, RUN_POOL, SKIP, SPOIL, Dice
from tests.helper import backward_chain, brink_list, chain, deeds_of, goes, grown_plans, helds, is_stop, led
from tests.helper import moved_by_hand, names_of, parts_by_hand, refusal, ring, small_plans, walked, ways_from_first
from tests.helper import whole_ways

OTHER = ("times", "a", 2)
OTHERS = ("set", "y", OTHER)
# A join that does the deed: one way to it does it already, the other one doesn't.
HALF = ([ASK, DO, SKIP, DO], [[1, 2], [3], [3], []])


def shown(told):
    return (told.plan.rows, told.plan.nexts, told.origins, told.shelves)


def parts_told(plan, held):
    """For plans too great to walk all their ways: what the choices tell, which have tests of their own."""
    parts = {}
    for deed in deeds_of(plan):
        choice = Choice(plan, deed, held)
        parts[deed] = (choice.puts(), choice.outs(), choice.stores())
    return parts


class Forms(unittest.TestCase):
    """Plans with their moved plans told by hand."""

    def check(self, plan, held, rows, nexts, origins, shelves):
        for told in (Moved(plan, held), moved(plan, held)):
            self.assertEqual(shown(told), (rows, nexts, origins, shelves))
            self.assertEqual(list(told.shelves), list(shelves))
            self.assertEqual((told.old.rows, told.old.nexts), (plan.rows, plan.nexts))

    def test_kinds(self):
        plan = Plan(*HALF)
        for told in (Moved(plan), moved(plan), moved(plan, [0])):
            self.assertIs(type(told), Moved)
            self.assertIs(type(told.plan), Plan)
            self.assertIs(type(told.old), Plan)
            self.assertIs(type(told.origins), list)
            self.assertTrue(all(type(origin) is tuple for origin in told.origins))
            self.assertIs(type(told.shelves), dict)

    def test_nothing_to_move(self):
        for rows in ([SKIP], [DO], [SPOIL, DO, SKIP], [DO, SPOIL, DO], [DO, OTHERS], [DO_AND_SPOIL, DO]):
            plan = chain(rows)
            self.check(plan, None, rows, plan.nexts, [("own", place) for place in range(len(rows))], {})

    def test_a_store(self):
        rows = [SKIP, DO, SKIP, ("set", "y", DEED)]
        self.check(
            chain(rows), None, [SKIP, ("set", "k0", DEED), ("copy", "x", "k0"), SKIP, ("copy", "y", "k0")],
            [[1], [2], [3], [4], []],
            [("own", 0), ("store", 1, DEED), ("own", 1), ("own", 2), ("own", 3)], {DEED: "k0"},
        )

    def test_a_store_at_place_0(self):
        self.check(
            chain([DO, ("set", "y", DEED)]), [], [("set", "k0", DEED), ("copy", "x", "k0"), ("copy", "y", "k0")],
            [[1], [2], []], [("store", 0, DEED), ("own", 0), ("own", 1)], {DEED: "k0"},
        )

    def test_a_put_on_a_step_between(self):
        self.check(
            Plan(*HALF), None,
            [ASK, ("set", "k0", DEED), ("copy", "x", "k0"), SKIP, ("set", "k0", DEED), ("copy", "x", "k0")],
            [[1, 3], [2], [5], [4], [5], []],
            [("own", 0), ("store", 1, DEED), ("own", 1), ("own", 2), ("put", (2, 0), DEED), ("own", 3)],
            {DEED: "k0"},
        )

    def test_a_put_on_the_first_step(self):
        self.check(
            Plan(*HALF), [0],
            [("set", "k0", DEED), ASK, ("copy", "x", "k0"), SKIP, ("copy", "x", "k0")],
            [[1], [2, 3], [4], [4], []],
            [("put", FIRST, DEED), ("own", 0), ("own", 1), ("own", 2), ("own", 3)], {DEED: "k0"},
        )

    def test_several_deeds_on_the_first_step(self):
        plan = Plan([ASK, OTHERS, DO], [[1, 1], [2], []])
        self.check(
            plan, [0, 0],
            [("set", "k0", OTHER), ("set", "k1", DEED), ASK, ("copy", "y", "k0"), ("copy", "x", "k1")],
            [[1], [2], [3, 3], [4], []],
            [("put", FIRST, OTHER), ("put", FIRST, DEED), ("own", 0), ("own", 1), ("own", 2)],
            {OTHER: "k0", DEED: "k1"},
        )

    def test_several_deeds_on_a_step_between(self):
        plan = Plan([SKIP, SKIP, DO, OTHERS], [[1], [2], [3], []])
        self.check(
            plan, [1],
            [SKIP, ("set", "k0", DEED), ("set", "k1", OTHER), SKIP, ("copy", "x", "k0"), ("copy", "y", "k1")],
            [[1], [2], [3], [4], [5], []],
            [("own", 0), ("put", (0, 0), DEED), ("put", (0, 0), OTHER), ("own", 1), ("own", 2), ("own", 3)],
            {DEED: "k0", OTHER: "k1"},
        )

    def test_puts_on_both_steps_of_an_ask(self):
        plan = Plan([SKIP, ASK, SKIP, SKIP, DO], [[1], [2, 3], [4], [4], []])
        self.check(
            plan, [3, 2],
            [SKIP, ASK, ("set", "k0", DEED), ("set", "k0", DEED), SKIP, SKIP, ("copy", "x", "k0")],
            [[1], [2, 3], [4], [5], [6], [6], []],
            [("own", 0), ("own", 1), ("put", (1, 0), DEED), ("put", (1, 1), DEED), ("own", 2), ("own", 3), ("own", 4)],
            {DEED: "k0"},
        )

    def test_both_steps_of_an_ask_lead_to_one_place(self):
        plan = Plan([ASK, SKIP, DO], [[1, 1], [2], []])
        self.check(
            plan, [1],
            [ASK, ("set", "k0", DEED), ("set", "k0", DEED), SKIP, ("copy", "x", "k0")],
            [[1, 2], [3], [3], [4], []],
            [("own", 0), ("put", (0, 0), DEED), ("put", (0, 1), DEED), ("own", 1), ("own", 2)], {DEED: "k0"},
        )

    def test_one_step_of_an_ask_alone(self):
        plan = Plan([ASK, SKIP, DO, SKIP], [[1, 3], [2], [3], []])
        self.check(
            plan, [1], [ASK, ("set", "k0", DEED), SKIP, ("copy", "x", "k0"), SKIP], [[1, 4], [2], [3], [4], []],
            [("own", 0), ("put", (0, 0), DEED), ("own", 1), ("own", 2), ("own", 3)], {DEED: "k0"},
        )
        plan = Plan([ASK, SKIP, DO, SKIP], [[3, 1], [2], [3], []])
        self.check(
            plan, [1], [ASK, ("set", "k0", DEED), SKIP, ("copy", "x", "k0"), SKIP], [[4, 1], [2], [3], [4], []],
            [("own", 0), ("put", (0, 1), DEED), ("own", 1), ("own", 2), ("own", 3)], {DEED: "k0"},
        )

    def test_steps_that_lead_back_to_place_0(self):
        # The loop does the deed each time round; put ahead of the loop, it is done once.
        plan = Plan([DO, ASK, SKIP], [[1], [0, 2], []])
        self.check(
            plan, None, [("set", "k0", DEED), ("copy", "x", "k0"), ASK, SKIP], [[1], [2], [1, 3], []],
            [("put", FIRST, DEED), ("own", 0), ("own", 1), ("own", 2)], {DEED: "k0"},
        )

    def test_a_store_at_place_0_with_a_step_back_to_it(self):
        plan = Plan([DO, ("set", "y", DEED), ("take", "a"), ASK, SKIP], [[1], [2], [3], [0, 4], []])
        self.check(
            plan, None,
            [("set", "k0", DEED), ("copy", "x", "k0"), ("copy", "y", "k0"), ("take", "a"), ASK, SKIP],
            [[1], [2], [3], [4], [0, 5], []],
            [("store", 0, DEED), ("own", 0), ("own", 1), ("own", 2), ("own", 3), ("own", 4)], {DEED: "k0"},
        )

    def test_a_put_on_a_step_back_to_place_0(self):
        # The step back alone finds the deed spoilt, and place 0 is held.
        plan = Plan([DO, SPOIL, ASK, SKIP], [[1], [2], [0, 3], []])
        self.check(
            plan, [0],
            [("set", "k0", DEED), ("copy", "x", "k0"), SPOIL, ASK, ("set", "k0", DEED), SKIP],
            [[1], [2], [3], [4, 5], [1], []],
            [("put", FIRST, DEED), ("own", 0), ("own", 1), ("own", 2), ("put", (2, 0), DEED), ("own", 3)],
            {DEED: "k0"},
        )

    def test_a_row_that_does_and_spoils(self):
        # Its worth is wanted nowhere else: it stays.
        rows = [SKIP, DO_AND_SPOIL, DO_AND_SPOIL]
        self.check(chain(rows), None, rows, [[1], [2], []], [("own", 0), ("own", 1), ("own", 2)], {})
        # The worth is there when it comes: an out, whose copy spoils the deed.
        self.check(
            chain([DO, DO_AND_SPOIL, DO]), None, [("set", "k0", DEED), ("copy", "x", "k0"), ("copy", "a", "k0"), DO],
            [[1], [2], [3], []], [("store", 0, DEED), ("own", 0), ("own", 1), ("own", 2)], {DEED: "k0"},
        )
        self.check(
            chain([SKIP, ("set", "a", ("plus", "a", 1))]), [1],
            [SKIP, ("set", "k0", ("plus", "a", 1)), ("copy", "a", "k0")], [[1], [2], []],
            [("own", 0), ("put", (0, 0), ("plus", "a", 1)), ("own", 1)], {("plus", "a", 1): "k0"},
        )

    def test_shelves_go_by_the_deeds_that_have_puts_or_stores(self):
        third = ("same", "a", "b")
        plan = chain([OTHERS, DO, ("set", "z", third), DO, ("set", "z", third), ("tell", "k1")])
        told = moved(plan)
        self.assertEqual(list(told.shelves.items()), [(DEED, "k0"), (third, "k2")])
        self.assertEqual(told.plan.rows, [
            OTHERS, ("set", "k0", DEED), ("copy", "x", "k0"), ("set", "k2", third), ("copy", "z", "k2"),
            ("copy", "x", "k0"), ("copy", "z", "k2"), ("tell", "k1"),
        ])

    def test_all_places_held(self):
        self.check(
            chain([DO, SPOIL, SKIP, DO]), [0, 1, 2, 3],
            [("set", "k0", DEED), ("copy", "x", "k0"), SPOIL, ("set", "k0", DEED), SKIP, ("copy", "x", "k0")],
            [[1], [2], [3], [4], [5], []],
            [("put", FIRST, DEED), ("own", 0), ("own", 1), ("put", (1, 0), DEED), ("own", 2), ("own", 3)],
            {DEED: "k0"},
        )


class SmallPlans(unittest.TestCase):
    def test_each_field(self):
        dice = Dice(211)
        seen = set()
        for plan in small_plans(211, 150, 5) + small_plans(212, 100, 5, RUN_POOL):
            for held in helds(plan, dice) + [None]:
                told = moved(plan, held)
                wanted = moved_by_hand(plan, parts_by_hand(plan, held or []))
                with self.subTest(rows=plan.rows, nexts=plan.nexts, held=held):
                    self.assertEqual(shown(told), wanted)
                    self.assertEqual(list(told.shelves.items()), list(wanted[3].items()))
                    self.assertEqual((told.old.rows, told.old.nexts), (plan.rows, plan.nexts))
                seen.update(origin[0] for origin in told.origins)
                seen.add(len(told.shelves))
        self.assertTrue({"put", "store", "own", 0, 1, 2, 3} <= seen)

    def test_greater_plans(self):
        dice = Dice(213)
        for plan in grown_plans(213, 60, 25, RUN_POOL):
            for held in helds(plan, dice):
                self.assertEqual(shown(moved(plan, held)), moved_by_hand(plan, parts_told(plan, held)))

    def test_moved_and_Moved_tell_alike(self):
        dice = Dice(214)
        for plan in small_plans(214, 100, 6):
            for held in helds(plan, dice) + [None]:
                wanted = shown(Moved(plan, held))
                self.assertEqual(shown(moved(plan, held)), wanted)
                self.assertEqual(shown(moved(plan, held=held)), wanted)
                self.assertEqual(shown(Moved(plan, held=held)), wanted)

    def test_held_none_and_the_empty_list(self):
        for plan in small_plans(215, 60, 6):
            wanted = shown(moved(plan))
            for held in (None, []):
                self.assertEqual(shown(moved(plan, held)), wanted)
                self.assertEqual(shown(Moved(plan, held)), wanted)

    def test_a_place_held_several_times(self):
        dice = Dice(216)
        for plan in small_plans(216, 60, 6):
            place = dice.below(len(plan.rows))
            self.assertEqual(shown(moved(plan, [place] * 5)), shown(moved(plan, [place])))
            places = list(range(len(plan.rows)))
            self.assertEqual(shown(moved(plan, places[::-1] + places)), shown(moved(plan, places)))

    def test_two_of_one_plan_by_turns(self):
        plan = Plan(*HALF)
        one, other, third = Moved(plan), Moved(plan, [0]), Moved(plan, [1])
        wanted = [copy.deepcopy(shown(told)) for told in (one, other, third)]
        self.assertFalse(wanted[0] == wanted[1] or wanted[1] == wanted[2] or wanted[0] == wanted[2])
        way = [FIRST, (0, 1), (2, 0)]
        ways = [told.way_in(way) for told in (one, other, third)]
        for turn in range(3):
            for told, want, inside in zip((one, other, third), wanted, ways):
                self.assertEqual(shown(told), want)
                self.assertEqual(told.way_in(way), inside)
                self.assertEqual(told.way_back(inside), way)


class Ways(unittest.TestCase):
    def check(self, told, way):
        inside = told.way_in(way)
        self.assertTrue(goes(told.plan, inside))
        self.assertEqual(inside[0], FIRST)
        owns = [told.origins[place][1] for place in walked(told.plan, inside) if told.origins[place][0] == "own"]
        self.assertEqual(owns, walked(told.old, way))
        self.assertEqual(told.origins[led(told.plan, inside[-1])], ("own", led(told.old, way[-1])))
        self.assertEqual(told.way_back(inside), way)

    def test_by_hand(self):
        told = moved(Plan(*HALF))
        for way, inside in (
            ([FIRST], [FIRST]), ([FIRST, (0, 0)], [FIRST, (0, 0), (1, 0)]), ([FIRST, (0, 1)], [FIRST, (0, 1)]),
            ([FIRST, (0, 0), (1, 0)], [FIRST, (0, 0), (1, 0), (2, 0)]),
            ([FIRST, (0, 1), (2, 0)], [FIRST, (0, 1), (3, 0), (4, 0)]),
        ):
            self.assertEqual(told.way_in(way), inside)
            self.assertEqual(told.way_back(inside), way)

    def test_by_hand_with_puts_on_the_first_step(self):
        told = moved(Plan([ASK, OTHERS, DO], [[1, 1], [2], []]), [0])
        self.assertEqual(told.way_in([FIRST]), [FIRST, (0, 0), (1, 0)])
        self.assertEqual(told.way_in([FIRST, (0, 1)]), [FIRST, (0, 0), (1, 0), (2, 1)])
        self.assertEqual(told.way_back([FIRST, (0, 0), (1, 0), (2, 1), (3, 0)]), [FIRST, (0, 1), (1, 0)])

    def test_small_plans(self):
        dice = Dice(221)
        for plan in small_plans(221, 60, 5):
            for held in helds(plan, dice):
                told = moved(plan, held)
                for way in ways_from_first(plan):
                    self.check(told, way)

    def test_from_the_moved_plans_side(self):
        dice = Dice(222)
        for plan in small_plans(222, 60, 3):
            told = moved(plan, dice.one_of(helds(plan, dice)))
            for inside in ways_from_first(told.plan):
                if told.origins[led(told.plan, inside[-1])][0] == "own":
                    way = told.way_back(inside)
                    self.assertTrue(goes(plan, way) and way[0] == FIRST)
                    self.assertEqual(told.way_in(way), inside)

    def test_ways_of_a_thousand_steps(self):
        plan = Plan([DO, SPOIL, ASK, DO, SKIP], [[1], [2], [3, 4], [0], []])
        for held in (None, [0], [3], [0, 1, 2, 3, 4]):
            told = moved(plan, held)
            way = ([FIRST] + [(0, 0), (1, 0), (2, 0), (3, 0)] * 400)[:1000]
            self.check(told, way)
            self.check(told, way[:-1] + [(led(plan, way[-2]), 0)])

    def test_a_way_handed_in_stays_and_a_told_one_is_the_askers_own(self):
        told = moved(Plan(*HALF))
        way = [FIRST, (0, 0), (1, 0)]
        inside = told.way_in(way)
        kept = list(inside)
        self.assertEqual(way, [FIRST, (0, 0), (1, 0)])
        inside.clear()
        self.assertEqual(told.way_in(way), kept)
        back = told.way_back(kept)
        back.append("z")
        self.assertEqual(told.way_back(kept), way)
        self.assertEqual(kept, [FIRST, (0, 0), (1, 0), (2, 0)])


class TheWhole(unittest.TestCase):
    """Point 5 of moved plans."""

    def check_run(self, told, start, taken, most):
        old = run(told.old, start, taken, most)
        if not old[1]:
            return
        inside = told.way_in(old[1])
        new = run(told.plan, start, taken, len(inside))
        self.assertEqual((new[0], new[1], new[3]), (old[0], inside, old[3]))
        shelves = list(told.shelves.values())
        for name in set(told.old.names()) | (set(start) - set(shelves)):
            self.assertEqual(new[2].get(name, 0), old[2].get(name, 0))

    def test_runs(self):
        dice = Dice(231)
        ended = 0
        for plan in small_plans(231, 150, 6, RUN_POOL) + grown_plans(237, 150, 20, RUN_POOL):
            told = moved(plan, dice.one_of(helds(plan, dice) + [None]))
            for turn in range(4):
                names = ["a", "b", "q", "x", "k0", "k1", "k2", "k3", "k4"]
                start = {name: dice.below(4) for name in names if dice.below(2)}
                taken = [dice.below(5) for k in range(dice.below(12))]
                for most in (0, 1, 2, dice.below(20), 60):
                    self.check_run(told, start, taken, most)
                ended += run(plan, start, taken, 60)[3]
        self.assertGreater(ended, 300)

    def test_a_start_that_has_a_shelf(self):
        told = moved(chain([DO, ("tell", "x"), DO, ("tell", "x")]))
        start = {"a": 2, "b": 3, "k0": 77}
        self.assertEqual(run(told.plan, start, [], 99)[0], [5, 5])
        self.assertEqual(run(told.plan, start, [], 99)[2], {"a": 2, "b": 3, "k0": 5, "x": 5})

    def test_a_run_that_is_cut_off_anywhere(self):
        told = moved(Plan([DO, SPOIL, ASK, DO, SKIP], [[1], [2], [3, 4], [0], []]), [0])
        for most in range(60):
            self.check_run(told, {"a": 5, "b": 1, "q": 1}, [1, 2, 3], most)

    def test_deeds_are_done_as_often_as_there_are_brinks(self):
        dice = Dice(232)
        fewer = 0
        for plan in small_plans(232, 120, 5):
            brinks = {deed: brink_list(plan, deed) for deed in deeds_of(plan)}
            ways = whole_ways(plan)
            for held in helds(plan, dice):
                told = moved(plan, held)
                for way in ways:
                    many = counts(told.plan, told.way_in(way))
                    old = counts(plan, way)
                    for deed in brinks:
                        wanted = sum(step in brinks[deed] for step in way)
                        self.assertEqual(many.get(deed, 0), wanted)
                        self.assertLessEqual(wanted, old[deed])
                        fewer += wanted < old[deed]
        self.assertGreater(fewer, 300)

    def test_greater_plans_on_one_whole_way_through_each_place(self):
        dice = Dice(238)
        fewer = 0
        for plan in grown_plans(238, 80, 30, RUN_POOL) + grown_plans(239, 80, 30):
            told = moved(plan, dice.one_of(helds(plan, dice)))
            brinks = {deed: Brinks(plan, deed).steps() for deed in deeds_of(plan)}
            for place in range(len(plan.rows)):
                way = way_to(plan, place) + way_on(plan, place)
                many, old = counts(told.plan, told.way_in(way)), counts(plan, way)
                for deed in brinks:
                    self.assertEqual(many.get(deed, 0), sum(step in brinks[deed] for step in way))
                    self.assertLessEqual(many.get(deed, 0), old[deed])
                    fewer += many.get(deed, 0) < old[deed]
        self.assertGreater(fewer, 300)

    def test_counts_of_a_whole_way(self):
        told = moved(Plan(*HALF))
        for way, many in (([FIRST, (0, 0), (1, 0)], 1), ([FIRST, (0, 1), (2, 0)], 1)):
            self.assertTrue(is_stop(told.old, led(told.old, way[-1])))
            self.assertEqual(counts(told.plan, told.way_in(way)), {DEED: many})
        self.assertEqual(counts(told.old, [FIRST, (0, 0), (1, 0)]), {DEED: 2})

    def test_moved_again_it_stays(self):
        dice = Dice(233)
        shelved = 0
        for plan in small_plans(233, 250, 6) + grown_plans(234, 150, 20, RUN_POOL) + grown_plans(236, 100, 20):
            for held in helds(plan, dice):
                told = moved(plan, held)
                for again in (moved(told.plan), moved(told.plan, [])):
                    self.assertEqual((again.plan.rows, again.plan.nexts), (told.plan.rows, told.plan.nexts))
                    self.assertEqual(again.shelves, {})
                    self.assertEqual(again.origins, [("own", place) for place in range(len(told.plan.rows))])
                shelved += len(told.shelves)
        self.assertGreater(shelved, 500)

    def test_the_deeds_put_in_are_deeds_of_the_plan(self):
        for plan in small_plans(235, 100, 8):
            told = moved(plan, list(range(len(plan.rows))))
            self.assertEqual(set(deeds_of(told.plan)) - set(deeds_of(plan)), set())
            self.assertEqual(names_of(told.plan), names_of(plan) | set(told.shelves.values()))


class Long(unittest.TestCase):
    def test_a_moved_plan_of_400_places_and_one_of_401(self):
        for make in (chain, backward_chain):
            for many in (398, 399, 400):
                plan = make([DO] + [SKIP] * (many - 2) + [DO])
                for call in (Moved, moved):
                    if many == 400:
                        self.assertEqual(refusal(call, plan), (TooMany, 400))
                        self.assertEqual(refusal(call, plan, [0]), (TooMany, 400))
                    else:
                        self.assertEqual(len(call(plan).plan.rows), many + 1)
                        self.assertEqual(len(call(plan, [0]).plan.rows), many + 1)

    def test_400_places_with_nothing_to_move(self):
        for plan in (chain([SKIP] * 399 + [DO]), backward_chain([SKIP] * 399 + [DO]), ring([SKIP] * 398)):
            told = moved(plan)
            self.assertEqual((told.plan.rows, told.plan.nexts, told.shelves), (plan.rows, plan.nexts, {}))

    def test_held_may_bring_it_above_400(self):
        plan = chain([SKIP] * 399 + [DO])
        self.assertEqual(refusal(moved, plan, [5]), (TooMany, 400))
        self.assertIsNone(refusal(moved, plan))
        self.assertIsNone(refusal(moved, plan, []))

    def test_many_puts(self):
        # Each of twenty steps would have each of many deeds: far more than 400 places.
        deeds = [("set", "x", ("plus", "a", value)) for value in range(30)]
        rows = [ASK] * 20 + deeds
        nexts = [[place + 1, 20] for place in range(20)] + [[20 + k] for k in range(1, 30)] + [[]]
        self.assertIsNone(refusal(moved, Plan(rows, nexts)))
        self.assertEqual(refusal(moved, Plan(rows, nexts), [20]), (TooMany, 400))

    def test_a_long_chain_and_ring(self):
        plan = backward_chain([DO, SKIP, SKIP] * 100 + [SPOIL] + [DO, SKIP] * 48)
        self.assertEqual(shown(moved(plan)), moved_by_hand(plan, parts_told(plan, [])))
        plan = ring([SKIP] * 395 + [DO, SKIP])
        for held in (None, [1], [7] * 400):
            told = moved(plan, held)
            self.assertEqual(shown(told), moved_by_hand(plan, parts_told(plan, held)))
            way = [FIRST] + ([(0, 0)] + [(place, 0) for place in range(1, 398)]) * 3
            self.assertEqual(told.way_back(told.way_in(way)), way)


class Refusals(unittest.TestCase):
    calls = (Moved, moved)

    def setUp(self):
        self.plan = chain([SKIP, DO, SKIP, DO])

    def test_no_plan(self):
        for thing in NO_LISTS + [[], [SKIP], ([SKIP], [[]]), Plan, (self.plan,), [self.plan], Moved(self.plan)]:
            for call in self.calls:
                self.assertEqual(refusal(call, thing), (Wrong, 0))
                self.assertEqual(refusal(call, thing, []), (Wrong, 0))
                self.assertEqual(refusal(call, thing, held=[0]), (Wrong, 0))

    def test_held_that_is_no_list(self):
        for thing in [thing for thing in NO_LISTS if thing is not None] + [(1, 2), "01", DEED, self.plan]:
            for call in self.calls:
                self.assertEqual(refusal(call, self.plan, thing), (Wrong, 1))
                self.assertEqual(refusal(call, self.plan, held=thing), (Wrong, 1))

    def test_held_of_too_many(self):
        for call in self.calls:
            for held in ([0] * 401, [3] * 1000, [None] * 401, list(range(401))):
                self.assertEqual(refusal(call, self.plan, held), (TooMany, 400))
            for held in ([], [0], [0] * 400, [0, 1, 2, 3] * 100):
                self.assertIsNone(refusal(call, self.plan, held))

    def test_held_with_things_that_are_no_places(self):
        for call in self.calls:
            for thing in NO_PLACES + [4, 5, 400]:
                for at in range(3):
                    held = [0, 3, 3]
                    held[at] = thing
                    with self.subTest(held=held):
                        self.assertEqual(refusal(call, self.plan, held), (NoThing, at))
                        self.assertEqual(refusal(call, self.plan, held + [None]), (NoThing, at))

    def test_a_plan_with_no_deed_looks_at_held_too(self):
        for call in self.calls:
            self.assertEqual(refusal(call, chain([SKIP]), (0,)), (Wrong, 1))
            self.assertEqual(refusal(call, chain([SKIP]), [0, 1]), (NoThing, 1))
            self.assertEqual(refusal(call, chain([SKIP]), [0] * 401), (TooMany, 400))

    def test_the_first_of_several_faults(self):
        great = chain([DO] + [SKIP] * 398 + [DO])
        for call in self.calls:
            for held in (None, [0], (), [9], [0] * 401, "a"):
                self.assertEqual(refusal(call, None, held), (Wrong, 0))
            self.assertEqual(refusal(call, great), (TooMany, 400))
            self.assertEqual(refusal(call, great, ()), (Wrong, 1))
            self.assertEqual(refusal(call, great, [0, 400]), (NoThing, 1))

    def test_a_refusal_changes_nothing(self):
        held = [0, [1]]
        for call in self.calls:
            self.assertEqual(refusal(call, self.plan, held), (NoThing, 1))
            self.assertEqual(held, [0, [1]])
        held[1] = 1
        self.assertIsNone(refusal(moved, self.plan, held))
        great = chain([DO] + [SKIP] * 398 + [DO])
        rows, nexts = list(great.rows), copy.deepcopy(great.nexts)
        for turn in range(2):
            self.assertEqual(refusal(moved, great), (TooMany, 400))
            self.assertEqual((great.rows, great.nexts), (rows, nexts))


class Copies(unittest.TestCase):
    def test_held_may_be_changed_behind_the_call(self):
        plan = chain([SKIP, SKIP, DO, DO])
        for call in (Moved, moved):
            held = [1, 1]
            told = call(plan, held)
            before = copy.deepcopy(shown(told))
            self.assertEqual(held, [1, 1])
            held[0] = 0
            held.append(2)
            self.assertEqual(shown(told), before)
            held.clear()
            self.assertEqual(shown(told), before)
            self.assertEqual(told.way_in([FIRST, (0, 0)]), [FIRST, (0, 0), (1, 0)])
        self.assertNotEqual(shown(moved(plan)), before)

    def test_what_made_the_plan_may_be_changed(self):
        rows, nexts = copy.deepcopy(HALF)
        plan = Plan(rows, nexts)
        told = moved(plan)
        before = copy.deepcopy(shown(told))
        rows.clear()
        nexts[0].clear()
        nexts.clear()
        self.assertEqual(shown(told), before)
        self.assertEqual((told.old.rows, told.old.nexts), HALF)
        self.assertEqual(shown(moved(plan)), before)

    def test_each_moved_has_lists_of_its_own(self):
        plan = Plan(*HALF)
        first = moved(plan)
        before = copy.deepcopy(shown(first))
        first.origins.clear()
        first.shelves.clear()
        first.plan.rows.clear()
        first.plan.nexts[0].clear()
        self.assertEqual(shown(moved(plan)), before)
        self.assertEqual((plan.rows, plan.nexts), HALF)

    def test_a_moved_plan_shares_no_list_with_the_old_one(self):
        plan = chain([SKIP, DO])
        told = moved(plan)
        told.plan.nexts[0].append(7)
        told.plan.rows.append(SKIP)
        self.assertEqual((plan.rows, plan.nexts), ([SKIP, DO], [[1], []]))

    def test_the_plan_stays(self):
        dice = Dice(241)
        for plan in small_plans(241, 60, 6):
            before = (list(plan.rows), copy.deepcopy(plan.nexts), plan.steps(), plan.deeds(), plan.names())
            for held in helds(plan, dice):
                moved(plan, held)
            self.assertEqual((plan.rows, plan.nexts, plan.steps(), plan.deeds(), plan.names()), before)


if __name__ == "__main__":
    unittest.main()
