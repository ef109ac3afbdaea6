"""Point 11: runs. Point 12: counts. Point 3 for both."""

import copy
import unittest

from oncedone.plans import Plan
from oncedone.runs import counts, run
from tests.helper import ASK, DEED, DO, DO_AND_SPOIL, FIRST, SKIP, Dice, chain, does, led, ring, small_plans
from tests.helper import walked, ways_from_first

TOP = 10 ** 12


class Runs(unittest.TestCase):
    def told(self, rows, start, taken, most=4000):
        return run(chain(rows), start, taken, most)

    def test_the_form(self):
        told = self.told([SKIP], {}, [])
        self.assertIs(type(told), tuple)
        self.assertEqual([type(part) for part in told], [list, list, dict, bool])
        self.assertEqual(told, ([], [FIRST], {}, True))

    def test_set(self):
        for deed, worth in (
            (("plus", "a", "b"), 8), (("minus", "a", "b"), TOP - 2), (("times", "a", 4), 12), (("less", "a", "b"), 1),
            (("less", "b", "a"), 0), (("same", "a", 3), 1), (("same", "c", 0), 1), (("plus", "c", "d"), 0),
            (("plus", "top", 2), 1),
        ):
            start = {"a": 3, "b": 5, "top": TOP - 1}
            told = self.told([("set", "x", deed)], start, [])
            self.assertEqual(told, ([], [FIRST], {"a": 3, "b": 5, "top": TOP - 1, "x": worth}, True))

    def test_set_reads_the_store_as_it_is_then(self):
        rows = [("set", "a", ("plus", "a", 1)), ("set", "a", ("plus", "a", "a")), ("set", "b", ("times", "a", "b"))]
        self.assertEqual(self.told(rows, {"a": 2, "b": 7}, [])[2], {"a": 6, "b": 42})

    def test_copy(self):
        rows = [("copy", "x", "a"), ("copy", "a", 9), ("copy", "y", "none"), ("copy", "z", "z"), ("copy", "a", "a")]
        self.assertEqual(self.told(rows, {"a": 4}, [])[2], {"a": 9, "x": 4, "y": 0, "z": 0})

    def test_take(self):
        rows = [("take", "x"), ("take", "y"), ("take", "x"), ("take", "z")]
        self.assertEqual(self.told(rows, {}, [3, 0, 5, 7, 8])[2], {"x": 5, "y": 0, "z": 7})

    def test_values_that_run_out(self):
        rows = [("take", "x"), ("tell", "x"), ("take", "x"), ("tell", "x"), ("take", "y"), ("tell", "y")]
        self.assertEqual(self.told(rows, {"y": 6}, [3])[0], [3, 0, 0])
        self.assertEqual(self.told(rows, {"y": 6}, [])[2], {"x": 0, "y": 0})

    def test_tell(self):
        rows = [("tell", "a"), ("tell", 7), ("tell", "b"), ("tell", "a"), ("tell", TOP - 1)]
        told = self.told(rows, {"a": 4}, [1])
        self.assertEqual(told, ([4, 7, 0, 4, TOP - 1], [FIRST, (0, 0), (1, 0), (2, 0), (3, 0)], {"a": 4}, True))

    def test_reading_puts_no_name_into_the_store(self):
        plan = Plan([ASK, ("tell", "b"), SKIP], [[1, 1], [2], []])
        self.assertEqual(run(plan, {}, [], 9)[2], {})
        self.assertEqual(self.told([("set", "x", ("plus", "a", "b"))], {}, [])[2], {"x": 0})

    def test_asking(self):
        plan = Plan([ASK, ("tell", 1), ("tell", 2)], [[1, 2], [], []])
        self.assertEqual(run(plan, {"q": 1}, [], 9), ([1], [FIRST, (0, 0)], {"q": 1}, True))
        self.assertEqual(run(plan, {"q": TOP - 1}, [], 9)[:2], ([1], [FIRST, (0, 0)]))
        self.assertEqual(run(plan, {"q": 0}, [], 9), ([2], [FIRST, (0, 1)], {"q": 0}, True))
        self.assertEqual(run(plan, {}, [], 9), ([2], [FIRST, (0, 1)], {}, True))
        for operand, at in ((0, 1), (1, 0), (TOP - 1, 0)):
            plan = Plan([("ask", operand), SKIP], [[1, 1], []])
            self.assertEqual(run(plan, {}, [], 9)[1], [FIRST, (0, at)])

    def test_names_that_are_words_of_rows(self):
        rows = [("take", "ask"), ("copy", "tell", "ask"), ("set", "set", ("plus", "tell", "ask")), ("tell", "set")]
        self.assertEqual(self.told(rows, {}, [4])[0], [8])

    def test_most_0(self):
        start = {"a": 4}
        told = self.told([("set", "a", ("plus", "a", 1))], start, [1], 0)
        self.assertEqual(told, ([], [], {"a": 4}, False))
        self.assertEqual(self.told([SKIP], {}, [], 0), ([], [], {}, False))
        told[2]["a"] = 9
        self.assertEqual(start, {"a": 4})

    def test_a_run_that_is_cut_off(self):
        rows = [("tell", 1), ("tell", 2), ("take", "a"), ("tell", 3)]
        self.assertEqual(self.told(rows, {}, [7], 1), ([1], [FIRST], {}, False))
        self.assertEqual(self.told(rows, {}, [7], 2), ([1, 2], [FIRST, (0, 0)], {}, False))
        self.assertEqual(self.told(rows, {}, [7], 3), ([1, 2], [FIRST, (0, 0), (1, 0)], {"a": 7}, False))
        whole = ([1, 2, 3], [FIRST, (0, 0), (1, 0), (2, 0)], {"a": 7}, True)
        for most in (4, 5, 4000):
            self.assertEqual(self.told(rows, {}, [7], most), whole)

    def test_the_step_behind_the_last_row_is_not_gone(self):
        plan = Plan([ASK, SKIP], [[1, 1], []])
        self.assertEqual(run(plan, {"q": 1}, [], 1), ([], [FIRST], {"q": 1}, False))

    def test_the_row_of_a_stop_is_done(self):
        for row, told, store in (
            (("tell", "a"), [4], {"a": 4}), (("take", "a"), [], {"a": 8}), (("copy", "a", 1), [], {"a": 1}),
            (("set", "a", ("plus", "a", 1)), [], {"a": 5}), (SKIP, [], {"a": 4}),
        ):
            self.assertEqual(self.told([row], {"a": 4}, [8], 1), (told, [FIRST], store, True))

    def test_a_loop(self):
        # From q down to 0, told each time.
        plan = ring([("tell", "q"), ("set", "q", ("minus", "q", 1))])
        round_once = [(0, 0), (1, 0), (2, 0)]
        self.assertEqual(run(plan, {"q": 3}, [], 4000), ([3, 2, 1], [FIRST] + round_once * 3 + [(0, 1)], {"q": 0}, True))
        told, way, store, ended = run(plan, {"q": TOP - 1}, [], 4000)
        self.assertEqual((len(told), len(way), store, ended), (1333, 4000, {"q": TOP - 1 - 1333}, False))

    def test_as_far_as_it_goes_row_by_row(self):
        # Each shorter run is the beginning of the longer one.
        dice = Dice(4)
        for plan in small_plans(15, 100, 6):
            taken = [dice.below(3) for k in range(4)]
            start = {"q": dice.below(2)}
            whole = run(plan, start, taken, 30)
            for most in range(31):
                told, way, store, ended = run(plan, start, taken, most)
                self.assertEqual(way, whole[1][:most])
                self.assertEqual(told, whole[0][:len(told)])
                self.assertEqual(ended, bool(way) and plan.nexts[led(plan, way[-1])] == [])
                if most >= len(whole[1]):
                    self.assertEqual((told, way, store, ended), whole)

    def test_each_row_of_the_way_done_again(self):
        reckon = {
            "plus": lambda one, other: (one + other) % TOP, "times": lambda one, other: one * other % TOP,
        }
        dice = Dice(5)
        for plan in small_plans(17, 200, 6):
            taken = [dice.below(4) for k in range(3)]
            start = {name: dice.below(3) for name in ("a", "b", "q", "x") if dice.below(2)}
            told, way, store, ended = run(plan, start, taken, 25)
            self.assertTrue(ended or len(way) == 25)
            left, names, said = list(taken), dict(start), []
            for k, step in enumerate(way):
                row = plan.rows[led(plan, step)]
                worths = [names.get(word, 0) if isinstance(word, str) else word for word in row[1:]]
                if row[0] == "set":
                    operands = [names.get(word, 0) for word in row[2][1:]]
                    names[row[1]] = reckon[row[2][0]](*operands)
                elif row[0] == "copy":
                    names[row[1]] = worths[1]
                elif row[0] == "take":
                    names[row[1]] = left.pop(0) if left else 0
                elif row[0] == "tell":
                    said.append(worths[0])
                if k + 1 < len(way):
                    at = 1 if row[0] == "ask" and worths[0] == 0 else 0
                    self.assertEqual(way[k + 1], (led(plan, step), at))
            self.assertEqual((told, store), (said, names))
            self.assertEqual(way[0], FIRST)

    def test_start_and_taken_stay_as_they_were(self):
        start = {"b": 2, "a": 1}
        taken = [5, 6, 7]
        plan = chain([("take", "a"), ("take", "c"), ("copy", "b", 9)])
        first = run(plan, start, taken, 9)
        self.assertEqual((list(start.items()), taken), ([("b", 2), ("a", 1)], [5, 6, 7]))
        self.assertEqual(run(plan, start, taken, 9), first)
        kept = copy.deepcopy(first)
        start["a"] = 4
        taken.clear()
        self.assertEqual(first, kept)

    def test_what_is_told_is_the_askers_own(self):
        plan = chain([("tell", "a"), ("take", "b")])
        first = run(plan, {"a": 1}, [2], 9)
        kept = copy.deepcopy(first)
        second = run(plan, {"a": 1}, [2], 9)
        first[0].clear()
        first[1].append(0)
        first[2].clear()
        self.assertEqual(second, kept)
        self.assertEqual(run(plan, {"a": 1}, [2], 9), kept)


class Counts(unittest.TestCase):
    def test_the_way_of_no_steps(self):
        self.assertEqual(counts(chain([DO, SKIP, ("set", "y", ("same", 1, 1))]), []), {DEED: 0, ("same", 1, 1): 0})
        self.assertEqual(counts(chain([SKIP]), []), {})

    def test_a_deed_that_comes_no_times(self):
        plan = Plan([ASK, DO, ("set", "y", ("less", 1, 2))], [[1, 2], [], []])
        self.assertEqual(counts(plan, [FIRST]), {DEED: 0, ("less", 1, 2): 0})
        self.assertEqual(counts(plan, [FIRST, (0, 0)]), {DEED: 1, ("less", 1, 2): 0})
        self.assertEqual(counts(plan, [FIRST, (0, 1)]), {DEED: 0, ("less", 1, 2): 1})

    def test_a_place_that_comes_several_times(self):
        plan = ring([DO, DO_AND_SPOIL, ("set", "x", ("plus", "b", "a"))])
        rounds = [(0, 0), (1, 0), (2, 0), (3, 0)]
        self.assertEqual(counts(plan, [FIRST] + rounds * 3), {DEED: 6, ("plus", "b", "a"): 3})
        self.assertEqual(counts(plan, [FIRST] + rounds + [(0, 0)]), {DEED: 3, ("plus", "b", "a"): 1})

    def test_the_last_place_counts(self):
        self.assertEqual(counts(chain([DO]), [FIRST]), {DEED: 1})

    def test_all_ways(self):
        for plan in small_plans(16, 40, 4):
            deeds = {row[2] for row in plan.rows if row[0] == "set"}
            for way in ways_from_first(plan):
                rows = [plan.rows[place] for place in walked(plan, way)]
                wanted = {deed: sum(does(row, deed) for row in rows) for deed in deeds}
                self.assertEqual(counts(plan, way), wanted)

    def test_the_way_stays_and_the_told_dict_is_the_askers_own(self):
        plan = chain([DO, DO])
        way = [FIRST, (0, 0)]
        first = counts(plan, way)
        first[DEED] = 77
        first["z"] = 1
        self.assertEqual(counts(plan, way), {DEED: 2})
        self.assertEqual(way, [FIRST, (0, 0)])


if __name__ == "__main__":
    unittest.main()
