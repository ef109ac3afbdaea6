"""Point 20: shelves. Point 3 for these."""

import unittest

from oncedone.plans import Plan
from oncedone.shelves import shelves_for
from tests.helper import ASK, DEED, DO, RUN_POOL, SKIP, Dice, chain, deeds_of, grown_plans, names_of

OTHER = ("times", "a", 2)
THIRD = ("same", "b", "a")


def doing(deeds):
    return [("set", "x", deed) for deed in deeds]


class Shelves(unittest.TestCase):
    def test_no_deed(self):
        for rows in ([SKIP], [DO], doing([DEED, OTHER])):
            told = shelves_for(chain(rows), [])
            self.assertIs(type(told), dict)
            self.assertEqual(told, {})

    def test_some_and_all(self):
        plan = chain(doing([DEED, OTHER, THIRD]))
        self.assertEqual(shelves_for(plan, [DEED]), {DEED: "k0"})
        self.assertEqual(shelves_for(plan, [THIRD]), {THIRD: "k0"})
        self.assertEqual(shelves_for(plan, [DEED, THIRD]), {DEED: "k0", THIRD: "k1"})
        told = shelves_for(plan, [DEED, OTHER, THIRD])
        self.assertEqual(list(told.items()), [(DEED, "k0"), (OTHER, "k1"), (THIRD, "k2")])

    def test_the_order_is_that_of_the_deeds_handed_in(self):
        plan = chain(doing([DEED, OTHER, THIRD]))
        told = shelves_for(plan, [THIRD, DEED, OTHER])
        self.assertEqual(list(told.items()), [(THIRD, "k0"), (DEED, "k1"), (OTHER, "k2")])

    def test_names_of_the_plan_are_passed_over(self):
        deeds = [DEED, OTHER, THIRD]
        for taken, wanted in (
            (["k0"], ["k1", "k2", "k3"]), (["k1"], ["k0", "k2", "k3"]), (["k2"], ["k0", "k1", "k3"]),
            (["k3"], ["k0", "k1", "k2"]), (["k0", "k1", "k3"], ["k2", "k4", "k5"]),
            (["k0", "k1", "k2", "k3", "k4"], ["k5", "k6", "k7"]), (["k00", "k01", "k", "kk0"], ["k0", "k1", "k2"]),
            (["k1", "k10", "k2x"], ["k0", "k2", "k3"]),
        ):
            rows = doing(deeds) + [("take", name) for name in taken]
            self.assertEqual(list(shelves_for(chain(rows), deeds).values()), wanted)

    def test_names_wherever_they_stand(self):
        for row in (
            ("set", "k0", ("less", 1, 2)), ("set", "y", ("less", "k0", 2)), ("set", "y", ("less", 1, "k0")),
            ("copy", "k0", 1), ("copy", "y", "k0"), ("take", "k0"), ("tell", "k0"),
        ):
            self.assertEqual(shelves_for(chain([row, DO]), [DEED]), {DEED: "k1"})
        plan = Plan([("ask", "k0"), DO], [[1, 1], []])
        self.assertEqual(shelves_for(plan, [DEED]), {DEED: "k1"})

    def test_names_that_are_words_of_the_rows(self):
        rows = [("set", "set", ("plus", "plus", "copy")), ("copy", "take", "tell"), ("take", "skip"), ("tell", "ask")]
        self.assertEqual(shelves_for(chain(rows), [("plus", "plus", "copy")]), {("plus", "plus", "copy"): "k0"})

    def test_more_deeds_than_ten(self):
        deeds = [("plus", "a", value) for value in range(14)]
        told = shelves_for(chain(doing(deeds)), deeds)
        self.assertEqual(list(told.values()), ["k%d" % number for number in range(14)])
        told = shelves_for(chain(doing(deeds) + [("take", "k9"), ("tell", "k11")]), deeds)
        self.assertEqual(list(told.values()), ["k%d" % number for number in range(16) if number not in (9, 11)])

    def test_four_hundred_deeds(self):
        deeds = [("plus", "k7", value) for value in range(400)]
        told = shelves_for(chain(doing(deeds)), deeds)
        self.assertEqual(list(told), deeds)
        self.assertEqual(list(told.values()), ["k%d" % number for number in range(401) if number != 7])

    def test_deeds_that_share_operands_have_shelves_of_their_own(self):
        deeds = [("plus", "a", "b"), ("plus", "b", "a"), ("minus", "a", "b")]
        self.assertEqual(len(set(shelves_for(chain(doing(deeds)), deeds).values())), 3)

    def test_small_plans(self):
        dice = Dice(201)
        for plan in grown_plans(201, 200, 12, RUN_POOL):
            deeds = [deed for deed in deeds_of(plan) if dice.below(3)]
            free = [name for name in ("k%d" % number for number in range(20)) if name not in names_of(plan)]
            self.assertEqual(list(shelves_for(plan, deeds).items()), list(zip(deeds, free)))


class Copies(unittest.TestCase):
    def test_the_list_handed_in_stays(self):
        plan = Plan([ASK, DO, ("set", "y", OTHER)], [[1, 2], [2], []])
        deeds = [DEED, OTHER]
        told = shelves_for(plan, deeds)
        self.assertEqual(deeds, [DEED, OTHER])
        deeds.clear()
        self.assertEqual(told, {DEED: "k0", OTHER: "k1"})

    def test_a_told_dict_is_the_askers_own(self):
        plan = chain(doing([DEED, OTHER]))
        first = shelves_for(plan, [DEED, OTHER])
        first[DEED] = "z"
        first.pop(OTHER)
        self.assertEqual(shelves_for(plan, [DEED, OTHER]), {DEED: "k0", OTHER: "k1"})
        self.assertEqual(shelves_for(plan, [OTHER]), {OTHER: "k0"})
        self.assertEqual(plan.rows, doing([DEED, OTHER]))


if __name__ == "__main__":
    unittest.main()
