"""Points 17, 18 and 19: choices, and what follows of them. Points 3, 4 and 5 for these."""

import copy
import itertools
import unittest

from oncedone.choices import Choice
from oncedone.errors import NoThing, TooMany, Wrong
from oncedone.plans import Plan
from tests.helper import ASK, DEED, DO, DO_AND_SPOIL, FIRST, NO_LISTS, NO_PLACES, SKIP, SPOIL, ByHand, Dice
from tests.helper import all_steps, backward_chain, brink_list, chain, does, helds, led, refusal, ring, rows_along
from tests.helper import small_plans, spoils, walked, ways_from_first, whole_ways, whole_ways_on

DEEDS = (DEED, ("plus", "b", "a"), ("times", "a", "b"), ("same", 1, 2))


def told_of(plan, choice):
    places = range(len(plan.rows))
    return (
        [choice.waits_at(place) for place in places], [choice.waits_on(step) for step in plan.steps()],
        [choice.alive_at(place) for place in places], [choice.alive_behind(place) for place in places],
        choice.puts(), choice.outs(), choice.stays(), choice.stores(),
    )


class Choices(unittest.TestCase):
    def told(self, plan, held=None, deed=DEED):
        choice = Choice(plan, deed, held)
        return (choice.puts(), choice.outs(), choice.stays(), choice.stores())

    def waits(self, plan, held=None):
        choice = Choice(plan, DEED, held)
        return [place for place in range(len(plan.rows)) if choice.waits_at(place)]

    def alive(self, plan, held=None):
        choice = Choice(plan, DEED, held)
        places = range(len(plan.rows))
        return ([place for place in places if choice.alive_at(place)],
                [place for place in places if choice.alive_behind(place)])

    def test_a_row_alone_stays(self):
        self.assertEqual(self.told(chain([SKIP, DO, SKIP])), ([], [], [1], []))
        self.assertEqual(self.waits(chain([SKIP, DO, SKIP])), [0, 1])
        self.assertEqual(self.alive(chain([SKIP, DO, SKIP])), ([], []))

    def test_two_rows(self):
        plan = chain([SKIP, DO, SKIP, DO, SKIP])
        self.assertEqual(self.told(plan), ([], [3], [1], [1]))
        self.assertEqual(self.waits(plan), [0, 1])
        self.assertEqual(self.alive(plan), ([2, 3], [1, 2]))

    def test_held(self):
        plan = chain([SKIP, SKIP, DO, SKIP, DO])
        self.assertEqual(self.told(plan, [2]), ([(1, 0)], [2, 4], [], []))
        self.assertEqual(self.told(plan, [1]), ([(0, 0)], [2, 4], [], []))
        self.assertEqual(self.told(plan, [0]), ([FIRST], [2, 4], [], []))
        self.assertEqual(self.told(plan, [2, 1, 2, 1]), ([(0, 0)], [2, 4], [], []))
        for held in ([3], [4], [3, 4], None, []):
            self.assertEqual(self.told(plan, held), ([], [4], [2], [2]))
        self.assertEqual(self.waits(plan, [1]), [0])
        self.assertEqual(self.alive(plan, [1]), ([1, 2, 3, 4], [1, 2, 3]))
        self.assertEqual(self.alive(plan, [0]), ([0, 1, 2, 3, 4], [0, 1, 2, 3]))

    def test_on_one_way_alone(self):
        # The join wants it whichever way was gone: put in on the way that lacks it.
        plan = Plan([ASK, DO, SKIP, DO], [[1, 2], [3], [3], []])
        self.assertEqual(self.told(plan), ([(2, 0)], [3], [1], [1]))
        self.assertEqual(self.waits(plan), [0, 1, 2])
        # A put on the step ends it: behind place 2 the worth needn't be kept.
        self.assertEqual(self.alive(plan), ([3], [1]))

    def test_a_row_that_does_and_spoils(self):
        self.assertEqual(self.told(chain([SKIP, DO_AND_SPOIL, DO])), ([], [], [1, 2], []))
        self.assertEqual(self.told(chain([DO, DO_AND_SPOIL, SKIP])), ([], [1], [0], [0]))
        self.assertEqual(self.told(chain([DO, DO_AND_SPOIL, DO]), [2]), ([(1, 0)], [1, 2], [0], [0]))

    def test_a_deed_that_no_row_does(self):
        for held in (None, [], [0], [0, 1]):
            self.assertEqual(self.told(chain([SKIP, DO]), held, ("plus", "b", "a")), ([], [], [], []))

    def test_a_loop_in_which_it_waits(self):
        # The greatest set: each of places 1 and 2 waits because the other one does.
        plan = Plan([SKIP, ASK, SKIP, DO], [[1], [2, 3], [1], []])
        self.assertEqual(self.waits(plan), [0, 1, 2, 3])
        self.assertEqual(self.told(plan), ([], [], [3], []))
        self.assertEqual(self.waits(plan, [2]), [0])
        self.assertEqual(self.told(plan, [2]), ([(0, 0)], [3], [], []))

    def test_a_loop_in_which_it_does_not_wait(self):
        # The loop does it, and comes to place 1 again with the deed done.
        plan = Plan([SKIP, ASK, DO, DO], [[1], [2, 3], [1], []])
        self.assertEqual(self.waits(plan), [0])
        self.assertEqual(self.told(plan), ([(0, 0)], [2, 3], [], []))
        self.assertEqual(self.alive(plan), ([1, 2, 3], [1, 2]))

    def test_the_orders(self):
        # The later places are come to first.
        plan = Plan([ASK, DO, SKIP, DO, ASK, DO, SKIP], [[4, 2], [], [1], [1], [6, 5], [1], [3]])
        self.assertEqual(self.told(plan), ([(2, 0)], [1], [3, 5], [3, 5]))
        self.assertEqual(self.told(plan, [5, 3]), ([(2, 0), (4, 1), (6, 0)], [1, 3, 5], [], []))
        rows = [ASK, ASK, ASK, SKIP, DO, DO, DO]
        plan = Plan(rows, [[2, 1], [5, 3], [3, 4], [], [], [6], []])
        self.assertEqual(self.told(plan, list(range(6, -1, -1))), ([(1, 0), (2, 1)], [4, 5, 6], [], []))

    def test_small_plans(self):
        dice = Dice(51)
        for plan in small_plans(51, 250, 5):
            for deed in DEEDS[:3]:
                for held in helds(plan, dice):
                    by_hand = ByHand(plan, deed, held)
                    on = [by_hand.on[step] for step in all_steps(plan)]
                    wanted = (by_hand.waits, on, by_hand.at, by_hand.behind, by_hand.puts, by_hand.outs, by_hand.stays,
                              by_hand.stores)
                    with self.subTest(rows=plan.rows, nexts=plan.nexts, deed=deed, held=held):
                        told = told_of(plan, Choice(plan, deed, held))
                        self.assertEqual(told, wanted)
                        self.assertTrue(all(type(truth) is bool for part in told[:4] for truth in part))
                        self.assertTrue(all(type(part) is list for part in told[4:]))

    def test_the_set_of_waiting_places_hangs_together(self):
        dice = Dice(52)
        for plan in small_plans(52, 200, 7):
            for deed in DEEDS:
                for held in helds(plan, dice):
                    choice = Choice(plan, deed, held)
                    for place in range(len(plan.rows)):
                        wanted = place not in held and all(choice.waits_on(step) for step in plan.steps_into(place))
                        self.assertIs(choice.waits_at(place), wanted)


class WhatFollows(unittest.TestCase):
    """Point 19, and point 5 as far as it speaks of choices."""

    def every(self, seed, many, places):
        dice = Dice(seed)
        for plan in small_plans(seed, many, places):
            for deed in DEEDS[:3]:
                for held in helds(plan, dice):
                    yield plan, deed, Choice(plan, deed, held)

    def test_as_many_puts_and_stays_as_brinks(self):
        for plan, deed, choice in self.every(61, 100, 5):
            brinks, puts, stays = brink_list(plan, deed), choice.puts(), choice.stays()
            for way in whole_ways(plan):
                many = sum(step in puts for step in way) + sum(place in stays for place in walked(plan, way))
                self.assertEqual(many, sum(step in brinks for step in way))

    def test_the_worth_lies_ready_at_each_out(self):
        seen = 0
        for plan, deed, choice in self.every(62, 100, 5):
            puts, outs, stays, stores = choice.puts(), choice.outs(), choice.stays(), choice.stores()
            for way in ways_from_first(plan):
                places = walked(plan, way)
                if places[-1] not in outs:
                    continue
                last = None
                for k, step in enumerate(way):
                    if step in puts:
                        last = (k, True)
                    if k + 1 < len(way) and places[k] in stays:
                        last = (k, places[k] in stores)
                seen += 1
                self.assertTrue(last is not None and last[1])
                rows = rows_along(plan, places[last[0]:-1])
                self.assertFalse(any(spoils(row, deed) for row in rows))
        self.assertGreater(seen, 1000)

    def test_each_put_is_followed_by_an_out(self):
        seen = 0
        for plan, deed, choice in self.every(63, 150, 5):
            outs = choice.outs()
            for put in choice.puts():
                begin = led(plan, put)
                for way in whole_ways_on(plan, begin):
                    places = [begin] + walked(plan, way)
                    first = [k for k, place in enumerate(places) if place in outs]
                    self.assertNotEqual(first, [])
                    self.assertFalse(any(spoils(row, deed) for row in rows_along(plan, places[:first[0]])))
                    seen += 1
        self.assertGreater(seen, 300)

    def test_a_brink_is_none_of_the_steps_behind_another_brink(self):
        for plan in small_plans(64, 200, 5):
            for deed in DEEDS:
                brinks = Choice(plan, deed, list(range(len(plan.rows)))).puts()
                for way in ways_from_first(plan):
                    places = walked(plan, way)
                    for k in range(len(way) - 1):
                        # The step behind place k, with a brink ahead and no row that does the deed between.
                        between = [does(plan.rows[place], deed) for place in places[:k + 1]]
                        ahead = [j for j in range(k + 1) if way[j] in brinks and not any(between[j:])]
                        self.assertFalse(ahead and way[k + 1] in brinks)

    def test_with_all_places_held_the_puts_are_the_brinks(self):
        for plan in small_plans(65, 200, 5):
            for deed in DEEDS:
                choice = Choice(plan, deed, list(range(len(plan.rows))))
                self.assertEqual(choice.puts(), brink_list(plan, deed))
                self.assertEqual((choice.stays(), choice.stores()), ([], []))
                self.assertFalse(any(choice.waits_at(place) for place in range(len(plan.rows))))

    def test_more_places_held(self):
        grown = 0
        for plan in small_plans(66, 80, 4):
            places = range(len(plan.rows))
            for deed in DEEDS[:3]:
                told = {}
                for many in range(len(plan.rows) + 1):
                    for held in itertools.combinations(places, many):
                        told[held] = told_of(plan, Choice(plan, deed, list(held)))
                for fewer, more in itertools.product(told, told):
                    if set(fewer) <= set(more):
                        for place in places:
                            self.assertTrue(told[fewer][0][place] or not told[more][0][place])
                            self.assertTrue(told[more][2][place] or not told[fewer][2][place])
                            self.assertTrue(told[more][3][place] or not told[fewer][3][place])
                            grown += told[more][3][place] and not told[fewer][3][place]
        self.assertGreater(grown, 50)


class Long(unittest.TestCase):
    def order(self, make):
        """The place of each row in turn, as the chain is numbered."""
        return list(range(400)) if make == chain else [0] + list(range(399, 0, -1))

    def test_chains_of_four_hundred(self):
        rows = [SPOIL] + [SKIP] * 198 + [DO] + [SKIP] * 199 + [DO]
        for make in (chain, backward_chain):
            plan = make(rows)
            order = self.order(make)
            choice = Choice(plan, DEED)
            self.assertEqual((choice.puts(), choice.outs()), ([], [order[399]]))
            self.assertEqual((choice.stays(), choice.stores()), ([order[199]], [order[199]]))
            for k, place in enumerate(order):
                self.assertIs(choice.waits_at(place), 1 <= k <= 199)
                self.assertIs(choice.alive_at(place), 200 <= k)
                self.assertIs(choice.alive_behind(place), 199 <= k < 399)
            choice = Choice(plan, DEED, [order[100]] * 400)
            self.assertEqual((choice.puts(), choice.stays()), ([(order[99], 0)], []))
            self.assertEqual(choice.outs(), sorted([order[199], order[399]]))
            for k, place in enumerate(order):
                self.assertIs(choice.waits_at(place), 1 <= k <= 99)
                self.assertIs(choice.alive_at(place), 100 <= k)

    def test_chains_that_do_and_spoil_by_turns(self):
        rows = [SPOIL, DO, DO, SKIP] * 100
        for make in (chain, backward_chain):
            plan = make(rows)
            order = self.order(make)
            choice = Choice(plan, DEED)
            self.assertEqual((choice.puts(), choice.outs()), ([], sorted(order[2::4])))
            self.assertEqual((choice.stays(), choice.stores()), (sorted(order[1::4]), sorted(order[1::4])))
            choice = Choice(plan, DEED, list(range(400)))
            self.assertEqual(choice.puts(), sorted((place, 0) for place in order[::4]))

    def test_a_ring_of_four_hundred(self):
        plan = ring([SKIP] * 397 + [DO])
        choice = Choice(plan, DEED)
        self.assertEqual((choice.puts(), choice.outs(), choice.stays()), ([], [], [398]))
        self.assertTrue(all(choice.waits_at(place) for place in range(1, 399)))
        # A loop of asking in which it waits, each place because the one ahead does.
        rows = [SKIP, ASK] + [SKIP] * 397 + [DO]
        nexts = [[1], [2, 399]] + [[place + 1] for place in range(2, 398)] + [[1], []]
        plan = Plan(rows, nexts)
        choice = Choice(plan, DEED)
        self.assertTrue(all(choice.waits_at(place) for place in range(400)))
        choice = Choice(plan, DEED, [398])
        self.assertEqual([place for place in range(400) if choice.waits_at(place)], [0])
        self.assertEqual((choice.puts(), choice.outs()), ([(0, 0)], [399]))

    def test_four_hundred_deeds(self):
        rows = [("set", "x", ("plus", "a", value)) for value in range(400)]
        for make in (chain, backward_chain):
            plan = make(rows)
            for deed in plan.deeds():
                self.assertEqual(len(Choice(plan, deed).stays()), 1)


class Refusals(unittest.TestCase):
    def setUp(self):
        self.plan = chain([SKIP, DO, SKIP, DO])

    def test_no_plan(self):
        for thing in NO_LISTS + [[], [SKIP], ([SKIP], [[]]), Plan, (self.plan,), [self.plan], DEED]:
            self.assertEqual(refusal(Choice, thing, DEED), (Wrong, 0))
            self.assertEqual(refusal(Choice, thing, DEED, []), (Wrong, 0))

    def test_no_deed(self):
        for thing in NO_LISTS + [
            [], ["plus", "a", "b"], ("plus", "a"), ("plus", "a", "b", "c"), ("pluss", "a", "b"), ("plus", "A", "b"),
            ("plus", "a", True), ("plus", "a", -1), ("plus", 10 ** 12, 1), ("plus", "a", ["b"]), (["plus"], "a", "b"),
            ("plus", "", 1), ("plus", None, 1), DO, "plus a b", (DEED,), [DEED],
        ]:
            with self.subTest(thing=thing):
                self.assertEqual(refusal(Choice, self.plan, thing), (Wrong, 1))
                self.assertEqual(refusal(Choice, self.plan, thing, [0]), (Wrong, 1))

    def test_held_that_is_no_list(self):
        for thing in [thing for thing in NO_LISTS if thing is not None] + [(1, 2), "01", DEED, self.plan]:
            self.assertEqual(refusal(Choice, self.plan, DEED, thing), (Wrong, 2))
            self.assertEqual(refusal(Choice, self.plan, DEED, held=thing), (Wrong, 2))

    def test_held_of_too_many(self):
        for held in ([0] * 401, [3] * 1000, [None] * 401, list(range(401))):
            self.assertEqual(refusal(Choice, self.plan, DEED, held), (TooMany, 400))
        for held in ([], [0], [0] * 400, [0, 1, 2, 3] * 100):
            self.assertIsNone(refusal(Choice, self.plan, DEED, held))

    def test_held_with_things_that_are_no_places(self):
        for thing in NO_PLACES + [4, 5, 400]:
            for at in range(3):
                held = [0, 3, 3]
                held[at] = thing
                with self.subTest(held=held):
                    self.assertEqual(refusal(Choice, self.plan, DEED, held), (NoThing, at))
                    self.assertEqual(refusal(Choice, self.plan, DEED, held + [None]), (NoThing, at))
        self.assertEqual(refusal(Choice, self.plan, DEED, [0] * 399 + [4]), (NoThing, 399))
        self.assertEqual(refusal(Choice, self.plan, DEED, [0] * 400 + [4]), (TooMany, 400))

    def test_the_first_of_several_faults(self):
        for deed in (DEED, None, ["plus", "a", 1]):
            for held in (None, [0], (), [9], [0] * 401):
                self.assertEqual(refusal(Choice, None, deed, held), (Wrong, 0))
        for held in (None, [0], (), [9], [0] * 401, "a"):
            self.assertEqual(refusal(Choice, self.plan, list(DEED), held), (Wrong, 1))

    def test_held_may_be_named_and_none_is_the_empty_list(self):
        without = told_of(self.plan, Choice(self.plan, DEED))
        for choice in (Choice(self.plan, DEED, None), Choice(self.plan, DEED, held=None), Choice(self.plan, DEED, []),
                       Choice(self.plan, DEED, held=[])):
            self.assertEqual(told_of(self.plan, choice), without)
        by_place = told_of(self.plan, Choice(self.plan, DEED, [1]))
        self.assertEqual(told_of(self.plan, Choice(self.plan, DEED, held=[1])), by_place)
        self.assertNotEqual(by_place, without)

    def test_a_refusal_changes_nothing(self):
        held = [0, [1]]
        self.assertEqual(refusal(Choice, self.plan, DEED, held), (NoThing, 1))
        self.assertEqual(held, [0, [1]])
        held[1] = 1
        self.assertIsNone(refusal(Choice, self.plan, DEED, held))


class Copies(unittest.TestCase):
    def test_held_may_be_changed_behind_the_call(self):
        plan = chain([SKIP, SKIP, DO, DO])
        held = [1, 1]
        choice = Choice(plan, DEED, held)
        before = told_of(plan, choice)
        self.assertEqual(held, [1, 1])
        held[0] = 0
        held.append(2)
        self.assertEqual(told_of(plan, choice), before)
        held.clear()
        self.assertEqual(told_of(plan, choice), before)
        # And what is held of one choice isn't held of the next.
        self.assertEqual(Choice(plan, DEED).puts(), [])

    def test_told_lists_are_the_askers_own(self):
        plan = Plan([ASK, DO, SKIP, DO], [[1, 2], [3], [3], []])
        choice = Choice(plan, DEED)
        before = told_of(plan, choice)
        for ask in (choice.puts, choice.outs, choice.stays, choice.stores):
            first = ask()
            second = ask()
            kept = list(first)
            self.assertNotEqual(kept, [])
            first.append("z")
            first.reverse()
            self.assertEqual(second, kept)
            second.clear()
            self.assertEqual(ask(), kept)
            self.assertEqual(told_of(plan, choice), before)

    def test_several_choices_of_one_plan(self):
        dice = Dice(71)
        for plan in small_plans(71, 60, 5):
            before = (list(plan.rows), copy.deepcopy(plan.nexts), plan.steps())
            wanted = [(deed, held, told_of(plan, Choice(plan, deed, held)))
                      for deed in DEEDS for held in helds(plan, dice)]
            choices = [Choice(plan, deed, held) for deed, held, told in wanted]
            for turn in range(2):
                for choice, (deed, held, told) in zip(choices, wanted):
                    self.assertEqual(told_of(plan, choice), told)
            self.assertEqual((plan.rows, plan.nexts, plan.steps()), before)


if __name__ == "__main__":
    unittest.main()
