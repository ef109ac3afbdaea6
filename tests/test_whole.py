"""Point 5, the whole promise, point 3 over all modules together, and the interface's names and arguments."""

import copy
import importlib
import inspect
import unittest

from oncedone.bench import Bench
from oncedone.brinks import Brinks
from oncedone.choices import Choice
from oncedone.copies import forwarded, stands_for
from oncedone.errors import OnceError
from oncedone.judge import fault
from oncedone.lookers import twice, why_twice
from oncedone.moved import Moved, moved
from oncedone.plans import Plan
from oncedone.ready import Ready
from oncedone.rounds import settled
from oncedone.runs import counts, run
from oncedone.shelves import shelves_for
from oncedone.texts import read, shown
from oncedone.wanted import Wanted
from oncedone.ways import is_way, is_whole_way, places_of, way_on, way_to
from tests.helper import COPY_POOL, DEED, DO, FIRST, ROW_POOL, RUN_POOL, SKIP, Dice, brink_list, chain, deeds_of, goes
from tests.helper import grown_plans, helds, is_stop, led, ready_after, rows_along, small_plans, spoils, walked
from tests.helper import wanted_before, whole_ways

POOL = ROW_POOL + RUN_POOL + COPY_POOL
NAMES = ("a", "b", "c", "q", "x", "k0", "k1", "k2")

FUNCTIONS = {
    "words": {name: ["thing"] for name in ("is_whole", "is_value", "is_name", "is_operand", "is_deed", "is_row")},
    "deeds": {
        "worth_of": ["operand", "store"], "worth": ["deed", "store"], "does": ["row", "deed"],
        "spoils": ["row", "deed"], "deed_of": ["row"], "set_by": ["row"], "reads_of": ["row"],
    },
    "ways": {
        "is_way": ["plan", "way"], "is_whole_way": ["plan", "way"], "places_of": ["plan", "way"],
        "way_to": ["plan", "place"], "way_on": ["plan", "place"],
    },
    "runs": {"run": ["plan", "start", "taken", "most"], "counts": ["plan", "way"]},
    "shelves": {"shelves_for": ["plan", "deeds"]},
    "moved": {"moved": ["plan", "held"]},
    "judge": {"fault": ["plan", "draft"]},
    "lookers": {"twice": ["plan", "deed"], "why_twice": ["plan", "deed"]},
    "copies": {"stands_for": ["plan", "place", "name"], "forwarded": ["plan"]},
    "rounds": {"settled": ["plan", "most"]},
    "texts": {"shown": ["plan"], "read": ["text"]},
}
CLASSES = {
    ("errors", "Wrong"): (["at"], {}), ("errors", "NoThing"): (["at"], {}), ("errors", "TooMany"): (["most"], {}),
    ("errors", "NoWay"): (["at"], {}),
    ("plans", "Plan"): (["rows", "nexts"], {
        "steps": [], "steps_into": ["place"], "stops": [], "deeds": [], "names": [], "leads_to": ["step"],
    }),
    ("ready", "Ready"): (["plan", "deed"], {
        "ready_at": ["place"], "ready_behind": ["place"], "ready_on": ["step"], "way_unready": ["place"],
    }),
    ("wanted", "Wanted"): (["plan", "deed"], {
        "wanted_at": ["place"], "wanted_behind": ["place"], "wanted_on": ["step"], "way_unwanted": ["place"],
    }),
    ("brinks", "Brinks"): (["plan", "deed"], {"steps": [], "why_brink": ["step"]}),
    ("choices", "Choice"): (["plan", "deed", "held"], {
        "waits_at": ["place"], "waits_on": ["step"], "alive_at": ["place"], "alive_behind": ["place"], "puts": [],
        "outs": [], "stays": [], "stores": [],
    }),
    ("moved", "Moved"): (["plan", "held"], {"way_in": ["way"], "way_back": ["way"]}),
    ("bench", "Bench"): (["plan"], {"change": ["place", "row"], "plan_now": [], "moved": [], "anew": []}),
}


def form(plan):
    return (plan.rows, plan.nexts)


def draft_of(told):
    return (told.plan.rows, told.plan.nexts, told.origins, told.shelves)


def thrown_starts(dice, many):
    for k in range(many):
        start = {name: dice.below(4) for name in NAMES if dice.below(2)}
        yield start, [dice.below(4) for taken in range(dice.below(10))]


class Interface(unittest.TestCase):
    def arguments(self, call):
        return list(inspect.signature(call).parameters)

    def test_functions(self):
        for module, functions in FUNCTIONS.items():
            there = importlib.import_module("oncedone." + module)
            for name, arguments in functions.items():
                self.assertEqual(self.arguments(getattr(there, name)), arguments, name)

    def test_classes(self):
        for (module, name), (arguments, methods) in CLASSES.items():
            there = getattr(importlib.import_module("oncedone." + module), name)
            self.assertEqual(self.arguments(there), arguments, name)
            for method, given in methods.items():
                self.assertEqual(self.arguments(getattr(there, method)), ["self"] + given, (name, method))

    def test_held_is_none_where_it_is_not_handed_in(self):
        for call in (Choice, Moved, moved):
            self.assertIsNone(inspect.signature(call).parameters["held"].default)


class FromTextToText(unittest.TestCase):
    def check_runs(self, plan, told, dice):
        for start, taken in thrown_starts(dice, 3):
            old = run(plan, start, taken, 60)
            inside = told.way_in(old[1])
            new = run(told.plan, start, taken, len(inside))
            self.assertEqual((new[0], new[1], new[3]), (old[0], inside, old[3]))
            for name in set(plan.names()) | (set(start) - set(told.shelves.values())):
                self.assertEqual(new[2].get(name, 0), old[2].get(name, 0))

    def test_moved_written_read_and_run(self):
        dice = Dice(901)
        for plan in small_plans(901, 80, 6, POOL) + grown_plans(902, 120, 20, POOL):
            first = read(shown(plan))
            for held in (None, dice.one_of(helds(plan, dice))):
                told = moved(first, held)
                again = read(shown(told.plan))
                self.assertEqual(form(again), form(told.plan))
                self.check_runs(first, told, dice)
                for start, taken in thrown_starts(dice, 2):
                    self.assertEqual(run(again, start, taken, 200), run(told.plan, start, taken, 200))

    def test_by_hand(self):
        plan = read("take a > 1; ask a > 2 3; set x plus a b > 4; skip > 4; set y plus a b > 5; tell y")
        told = moved(plan)
        self.assertEqual(shown(told.plan), (
            "take a > 1; ask a > 2 4; set k0 plus a b > 3; copy x k0 > 6; skip > 5; set k0 plus a b > 6; "
            "copy y k0 > 7; tell y"
        ))
        after = settled(plan, 8)
        self.assertEqual(shown(after[0]), shown(told.plan)[:-1] + "k0")
        self.assertEqual(after[1:], (2, True))
        for value in (0, 1, 7):
            for each in (plan, told.plan, after[0]):
                self.assertEqual(run(each, {"b": 5}, [value], 99)[0], [value + 5])

    def test_a_text_that_is_moved_stays_when_moved_again(self):
        dice = Dice(903)
        for plan in grown_plans(903, 100, 18, POOL):
            told = moved(plan, dice.one_of(helds(plan, dice)))
            self.assertEqual(shown(moved(read(shown(told.plan))).plan), shown(told.plan))


class ThePromise(unittest.TestCase):
    """Point 5, sentence by sentence, on thrown plans."""

    def test_each_brink_has_its_paper(self):
        dice = Dice(911)
        apart = 0
        for plan in small_plans(911, 80, 6) + grown_plans(912, 60, 16, POOL):
            plan = dice.one_of([plan, moved(plan).plan])
            for deed in deeds_of(plan):
                brinks = Brinks(plan, deed)
                for step in brinks.steps():
                    why = brinks.why_brink(step)
                    if why[0] == "first":
                        self.assertEqual((why, step), (("first",), FIRST))
                    elif why[0] == "spoilt":
                        self.assertEqual(why, ("spoilt", step[0]))
                        self.assertTrue(spoils(plan.rows[step[0]], deed))
                    else:
                        apart += 1
                        self.check_ways(plan, deed, step[0], why[1], why[2])
        self.assertGreater(apart, 50)

    def check_ways(self, plan, deed, place, one, other):
        self.assertTrue(goes(plan, one) and one[0] == FIRST and led(plan, one[-1]) == place)
        self.assertFalse(ready_after(rows_along(plan, walked(plan, one)), deed))
        self.assertTrue(goes(plan, other) and other[0][0] == place and is_stop(plan, led(plan, other[-1])))
        self.assertFalse(wanted_before(rows_along(plan, walked(plan, other)), deed))

    def test_as_seldom_whatever_is_held_and_alive_at_the_fewest_places(self):
        dice = Dice(913)
        for plan in small_plans(913, 80, 5):
            least = moved(plan)
            ways = whole_ways(plan)
            brinks = {deed: brink_list(plan, deed) for deed in deeds_of(plan)}
            for held in helds(plan, dice):
                told = moved(plan, held)
                for way in ways:
                    many = counts(told.plan, told.way_in(way))
                    few = counts(least.plan, least.way_in(way))
                    for deed in brinks:
                        wanted = sum(step in brinks[deed] for step in way)
                        self.assertEqual((many.get(deed, 0), few.get(deed, 0)), (wanted, wanted))
                for deed in deeds_of(plan):
                    one, other = Choice(plan, deed), Choice(plan, deed, held)
                    for place in range(len(plan.rows)):
                        self.assertTrue(other.alive_behind(place) or not one.alive_behind(place))
                        self.assertTrue(other.alive_at(place) or not one.alive_at(place))

    def test_whoever_finds_a_deed_done_twice_finds_why(self):
        seen = 0
        for plan in small_plans(914, 200, 6) + grown_plans(915, 300, 20):
            told = moved(plan).plan
            for deed in deeds_of(told):
                self.assertEqual(twice(told, deed) is None, why_twice(told, deed) is None)
                if twice(told, deed) is not None:
                    way, step, one, other = why_twice(told, deed)
                    self.assertIn(step, way)
                    self.assertIn(step, Brinks(told, deed).steps())
                    self.check_ways(told, deed, step[0], one, other)
                    seen += 1
        self.assertGreater(seen, 50)


class ByTurns(unittest.TestCase):
    def asked(self, plan, held):
        """What all modules tell of one plan, as plain things."""
        told = moved(plan, held)
        deeds = plan.deeds()
        places = range(len(plan.rows))
        steps = plan.steps()
        answers = [plan.rows, plan.nexts, steps, plan.stops(), plan.names(), deeds, shown(plan), draft_of(told)]
        answers.append(shelves_for(plan, deeds))
        answers.append(fault(plan, draft_of(told)))
        answers.append([stands_for(plan, place, name) for place in places for name in NAMES])
        answers.append(form(forwarded(plan)))
        last, many, still = settled(plan, 3)
        answers.append((form(last), many, still))
        ways = [way_to(plan, place) + way_on(plan, place) for place in places]
        answers.append([(is_way(plan, way), is_whole_way(plan, way), places_of(plan, way), counts(plan, way),
                         told.way_in(way), told.way_back(told.way_in(way))) for way in ways])
        answers.append(run(plan, {"a": 1, "k0": 2}, [1, 0, 3], 30))
        for deed in deeds:
            ready, wanted, brinks, choice = (Ready(plan, deed), Wanted(plan, deed), Brinks(plan, deed),
                                             Choice(plan, deed, held))
            answers.append([(ready.way_unready(place), wanted.way_unwanted(place), ready.ready_behind(place),
                             wanted.wanted_behind(place), choice.alive_at(place)) for place in places])
            answers.append((brinks.steps(), [brinks.why_brink(step) for step in steps]))
            answers.append((choice.puts(), choice.outs(), choice.stays(), choice.stores()))
            answers.append((twice(plan, deed), twice(told.plan, deed), why_twice(moved(plan).plan, deed)))
        return answers

    def test_the_same_plans_by_turns(self):
        dice = Dice(921)
        plans = small_plans(921, 20, 5, POOL) + grown_plans(922, 20, 10, POOL)
        helds_of = [dice.one_of(helds(plan, dice)) for plan in plans]
        first = [copy.deepcopy(self.asked(plan, held)) for plan, held in zip(plans, helds_of)]
        benches = [Bench(plan) for plan in plans]
        for bench in benches:
            bench.moved()
            for place, row in enumerate(bench.plan_now().rows):
                if row[0] != "ask":
                    bench.change(place, dice.one_of([row for row in POOL if row[0] != "ask"]))
            bench.moved()
        for turn in range(2):
            for plan, held, wanted in reversed(list(zip(plans, helds_of, first))):
                self.assertEqual(self.asked(plan, held), wanted)
        for plan, bench in zip(plans, benches):
            now = bench.plan_now()
            self.assertEqual(draft_of(bench.moved()), draft_of(moved(Plan(now.rows, now.nexts))))
            self.assertEqual(bench.anew(), [])

    def spoil(self, thing):
        """Every list and dict that was told is changed, lists within lists too."""
        if isinstance(thing, (list, tuple)):
            for part in list(thing):
                self.spoil(part)
        if isinstance(thing, list):
            thing.append("spoilt")
            thing.reverse()
        if isinstance(thing, dict):
            thing["spoilt"] = "spoilt"

    def test_what_is_told_stays_when_told_things_are_changed(self):
        dice = Dice(923)
        for plan in small_plans(923, 30, 5, POOL) + grown_plans(924, 20, 10, POOL):
            held = dice.one_of(helds(plan, dice))
            kept = list(held)
            wanted = copy.deepcopy(self.asked(plan, held))
            told = self.asked(plan, held)
            self.assertEqual(held, kept)
            # The first two are fields, which are for reading; all else is the asker's own.
            self.spoil(told[2:7])
            self.spoil(told[8:])
            self.assertEqual(self.asked(plan, held), wanted)

    def test_what_is_told_stays_when_things_handed_in_are_changed(self):
        dice = Dice(925)
        for plan in small_plans(925, 40, 5, POOL):
            rows, nexts = list(plan.rows), copy.deepcopy(plan.nexts)
            made = Plan(rows, nexts)
            held = dice.one_of(helds(plan, dice))
            start, taken = {"a": 1, "b": 2}, [1, 2, 3]
            told = moved(made, held)
            choices = [Choice(made, deed, held) for deed in made.deeds()]
            ran = run(made, start, taken, 20)
            bench = Bench(made)
            before = copy.deepcopy((form(made), draft_of(told), [choice.puts() for choice in choices], ran))
            self.assertEqual((rows, nexts), form(plan))
            for following in nexts:
                following.append(77)
            rows.reverse()
            rows.append("z")
            held.append(0)
            start["a"] = 9
            taken.clear()
            after = (form(made), draft_of(told), [choice.puts() for choice in choices], ran)
            self.assertEqual(after, before)
            self.assertEqual(form(bench.plan_now()), form(plan))
            self.assertEqual(draft_of(bench.moved()), draft_of(moved(plan)))

    def test_judged_settled_and_benched(self):
        dice = Dice(926)
        for plan in grown_plans(926, 60, 14, POOL):
            last = settled(plan, 8)[0]
            bench = Bench(last)
            told = bench.moved()
            self.assertIsNone(fault(last, draft_of(told)))
            round_more = moved(forwarded(last)).plan
            if settled(plan, 8)[2]:
                self.assertEqual(form(round_more), form(last))
            for deed in deeds_of(told.plan):
                self.assertEqual(twice(told.plan, deed) is None, why_twice(told.plan, deed) is None)
            place = dice.below(len(last.rows))
            if last.rows[place][0] != "ask":
                bench.change(place, DO)
                changed = Plan(last.rows[:place] + [DO] + last.rows[place + 1:], last.nexts)
                self.assertEqual(shown(bench.moved().plan), shown(moved(changed).plan))
                self.assertIsNone(fault(changed, draft_of(bench.moved())))

    def test_refusals_stand_under_one_class(self):
        plan = chain([SKIP])
        for call, given in (
            (Plan, (None, [])), (Choice, (None, DEED)), (Moved, (None,)), (moved, (plan, 0)), (Bench, (None,)),
            (Bench(plan).change, (1, SKIP)), (read, ("",)), (settled, (chain([DO] + [SKIP] * 398 + [DO]), 1)),
        ):
            with self.assertRaises(OnceError):
                call(*given)
            with self.assertRaises(ValueError):
                call(*given)


if __name__ == "__main__":
    unittest.main()
