"""Points 23 and 24: the judge of drafts. Points 3 and 5 for it."""

import copy
import itertools
import unittest

from oncedone.choices import Choice
from oncedone.judge import fault
from oncedone.moved import moved
from oncedone.plans import Plan
from oncedone.runs import run
from tests.helper import ASK, DEED, DO, DO_AND_SPOIL, FIRST, NO_LISTS, RUN_POOL, SKIP, SPOIL, Dice, all_steps
from tests.helper import backward_chain, brink_list, chain, deeds_of, does, grown_plans, helds, led, names_of
from tests.helper import ready_tables, refusal, renumbered, ring, small_plans, spoils, walked, wanted_tables
from tests.helper import ways_on, whole_ways

OTHER = ("times", "a", 2)
STEP = (2, 0)
KEPT = ("set", "k0", DEED)
COPY = ("copy", "x", "k0")


def half():
    """A join that does the deed: one way to it does it already, the other one doesn't."""
    return Plan([ASK, DO, SKIP, DO], [[1, 2], [3], [3], []])


def good():
    """The moved plan of half() as a draft: a list of four parts, to be changed."""
    return [
        [ASK, KEPT, COPY, SKIP, KEPT, COPY], [[1, 3], [2], [5], [4], [5], []],
        [("own", 0), ("store", 1, DEED), ("own", 1), ("own", 2), ("put", STEP, DEED), ("own", 3)], {DEED: "k0"},
    ]


def draft_of(told):
    return (told.plan.rows, told.plan.nexts, told.origins, told.shelves)


def otherwise(dice, draft):
    rows, nexts, order = renumbered(dice, draft[0], draft[1])
    return (rows, nexts, [draft[2][place] for place in order], draft[3])


def as_it_is(plan):
    return (plan.rows, plan.nexts, [("own", place) for place in range(len(plan.rows))], {})


class Asked(unittest.TestCase):
    def check(self, word, plan, draft):
        with self.subTest(draft=draft):
            self.assertEqual(fault(plan, tuple(draft)), word)


class LetBy(Asked):
    def test_the_draft_by_hand(self):
        self.check(None, half(), good())
        self.assertEqual(draft_of(moved(half())), tuple(good()))

    def test_each_moved(self):
        dice = Dice(301)
        for plan in small_plans(301, 150, 6) + grown_plans(302, 60, 20, RUN_POOL):
            for held in helds(plan, dice):
                draft = draft_of(moved(plan, held))
                self.check(None, plan, draft)
                self.check(None, plan, otherwise(dice, draft))

    def test_a_plan_as_its_own_draft(self):
        for plan in small_plans(303, 60, 6) + [
            chain([DO] * 400), backward_chain([SKIP, DO, SPOIL, DO] * 100), ring([SKIP, DO] * 199),
        ]:
            self.check(None, plan, as_it_is(plan))

    def test_more_shelves_than_are_used(self):
        draft = good()
        draft[3] = {("same", "never", 1): "zz", DEED: "k0", OTHER: "k1"}
        self.check(None, half(), draft)
        draft = list(as_it_is(half()))
        draft[3] = {OTHER: "k0", DEED: "k1"}
        self.check(None, half(), draft)

    def test_any_names_that_the_old_plan_has_not(self):
        draft = good()
        draft[0] = [ASK, ("set", "set", DEED), ("copy", "x", "set"), SKIP, ("set", "set", DEED), ("copy", "x", "set")]
        draft[3] = {DEED: "set"}
        self.check(None, half(), draft)

    def test_a_put_where_the_deed_is_wanted(self):
        rows = [KEPT, ASK, COPY, SKIP, COPY]
        origins = [("put", FIRST, DEED), ("own", 0), ("own", 1), ("own", 2), ("own", 3)]
        self.check(None, half(), [rows, [[1], [2, 3], [4], [4], []], origins, {DEED: "k0"}])

    def test_a_put_that_nobody_needs(self):
        # Where the deed is wanted, but each row goes on doing it.
        rows = [ASK, DO, SKIP, KEPT, DO]
        origins = [("own", 0), ("own", 1), ("own", 2), ("put", STEP, DEED), ("own", 3)]
        self.check(None, half(), [rows, [[1, 2], [4], [3], [4], []], origins, {DEED: "k0"}])

    def test_a_put_where_the_deed_is_ready(self):
        # Behind place 1 it is ready, and it is wanted nowhere.
        plan = chain([SKIP, DO, SKIP])
        rows = [SKIP, DO, KEPT, SKIP]
        origins = [("own", 0), ("own", 1), ("put", (1, 0), DEED), ("own", 2)]
        self.check(None, plan, [rows, [[1], [2], [3], []], origins, {DEED: "k0"}])

    def test_one_deed_twice_on_one_step(self):
        draft = good()
        draft[0][4:5] = [KEPT, KEPT]
        draft[1] = [[1, 3], [2], [6], [5], [6], [4], []]
        draft[2].insert(5, ("put", STEP, DEED))
        self.check(None, half(), draft)

    def test_two_deeds_on_one_step_in_either_order(self):
        plan = Plan([ASK, DO, SKIP, DO, ("set", "y", OTHER)], [[1, 2], [3], [3], [4], []])
        told = moved(plan, [3])
        rows, nexts, origins, shelves = draft_of(told)
        self.check(None, plan, (rows, nexts, origins, shelves))
        puts = [k for k, origin in enumerate(origins) if origin[:2] == ("put", STEP)]
        self.assertEqual(len(puts), 2)
        for things in (rows, origins):
            things[puts[0]], things[puts[1]] = things[puts[1]], things[puts[0]]
        self.check(None, plan, (rows, nexts, origins, shelves))

    def test_a_store_that_nobody_needs(self):
        plan = chain([SKIP, DO])
        origins = [("own", 0), ("store", 1, DEED), ("own", 1)]
        self.check(None, plan, [[SKIP, KEPT, COPY], [[1], [2], []], origins, {DEED: "k0"}])

    def test_a_store_that_is_not_copied_later(self):
        draft = good()
        draft[0][5] = DO
        self.check(None, half(), draft)

    def test_places_numbered_otherwise(self):
        dice = Dice(304)
        for turn in range(20):
            self.check(None, half(), otherwise(dice, good()))


class Form(Asked):
    def test_no_draft_at_all(self):
        for thing in NO_LISTS + [
            [], good(), tuple(good()[:3]), tuple(good() + [{}]), tuple(good()[:1]), (None,) * 4, ([],) * 4, ({},) * 4,
            (1, 2, 3, 4), "abcd", half(), moved(half()), Plan, ([[]], [[]], [[]], {}), ([{}], [{}], [{}], {1: {}}),
        ]:
            with self.subTest(thing=thing):
                self.assertEqual(fault(half(), thing), "form")

    def test_parts_of_other_kinds(self):
        for at in range(4):
            for thing in NO_LISTS + [[], [None], [[]], {1: []}, tuple(good()[at]), [good()[at]], half()]:
                draft = good()
                draft[at] = thing
                self.check("form", half(), draft)

    def test_rows_and_nexts_that_make_no_plan(self):
        for change in (
            lambda rows, nexts: rows.clear(), lambda rows, nexts: nexts.clear(), lambda rows, nexts: rows.pop(),
            lambda rows, nexts: rows.append(SKIP), lambda rows, nexts: nexts.append([]),
            lambda rows, nexts: rows.__setitem__(3, ["skip"]), lambda rows, nexts: rows.__setitem__(3, ("skip", 1)),
            lambda rows, nexts: rows.__setitem__(3, ("take", "A")), lambda rows, nexts: rows.__setitem__(3, {}),
            lambda rows, nexts: rows.__setitem__(3, ("ask", "q")), lambda rows, nexts: nexts.__setitem__(3, [4, 4]),
            lambda rows, nexts: nexts.__setitem__(3, (4,)), lambda rows, nexts: nexts.__setitem__(3, [6]),
            lambda rows, nexts: nexts.__setitem__(3, [-1]), lambda rows, nexts: nexts.__setitem__(3, [True]),
            # A place that isn't come to, and places from which no stop is come to.
            lambda rows, nexts: nexts.__setitem__(3, [5]), lambda rows, nexts: nexts.__setitem__(4, [3]),
            lambda rows, nexts: nexts.__setitem__(5, [0]),
        ):
            draft = good()
            change(draft[0], draft[1])
            self.assertIsNotNone(refusal(Plan, draft[0], draft[1]))
            self.check("form", half(), draft)

    def test_more_than_400_rows(self):
        plan = chain([SKIP] * 400)
        rows, nexts, origins, shelves = as_it_is(plan)
        self.check(None, plan, (rows, nexts, origins, shelves))
        longer = [nexts[place] for place in range(399)] + [[400], []]
        self.check("form", plan, (rows + [SKIP], longer, origins + [("own", 399)], shelves))

    def test_origins_of_another_number(self):
        for many in (0, 1, 5):
            draft = good()
            draft[2] = draft[2][:many]
            self.check("form", half(), draft)
        self.check("form", half(), good()[:2] + [good()[2] + [("own", 3)], {DEED: "k0"}])

    def test_origins_of_no_form(self):
        for origin in (
            None, [], ("own",), ("own", 3, 0), ("own", 3, DEED), ["own", 3], ("Own", 3), ("", 3), (3,), (), "own", 3,
            ("own", 4), ("own", -1), ("own", True), ("own", "3"), ("own", None), ("own", [3]), ("own", 3.0),
            ("own", {}), ("own", (3, 0)), ("own", FIRST), (["own"], 3), ({}, 3), ("store", 3), ("put", (3, 0)),
            ("put", STEP), ("put", STEP, DEED, 0), ("own", 10 ** 12),
        ):
            draft = good()
            draft[2][5] = origin
            self.check("form", half(), draft)

    def test_stores_of_no_form(self):
        for origin in (
            ("store", 1), ("store", 1, DEED, DEED), ("store", 1, list(DEED)), ("store", 1, None), ("store", 1, DO),
            ("store", 1, ("plus", "a", True)), ("store", 1, ("plus", "a", -1)), ("store", 1, ("plus", "a", [])),
            ("store", 4, DEED), ("store", -1, DEED), ("store", True, DEED), ("store", "1", DEED), ("store", [1], DEED),
            ("store", (1, 0), DEED), ("store", FIRST, DEED), ("store", None, DEED), ("stores", 1, DEED),
            ("own", 1, DEED), (None, 1, DEED), ([], 1, DEED), ["store", 1, DEED], ("store", 1.0, DEED),
        ):
            draft = good()
            draft[2][1] = origin
            self.check("form", half(), draft)

    def test_puts_of_no_form(self):
        for origin in (
            ("put", 2, DEED), ("put", [2, 0], DEED), ("put", (2,), DEED), ("put", (2, 0, 0), DEED),
            ("put", (2, 1), DEED), ("put", (4, 0), DEED), ("put", (3, 0), DEED), ("put", (-1, 1), DEED),
            ("put", (-2, 0), DEED), ("put", (2, False), DEED), ("put", (True, 0), DEED), ("put", ("2", 0), DEED),
            ("put", (2, None), DEED), ("put", (2, -1), DEED), ("put", ([], {}), DEED), ("put", None, DEED), ("put", STEP, list(DEED)),
            ("put", STEP, None), ("put", STEP, ("plus", "a", "b", "c")), ("put", STEP, ("plus", "a", "B")),
            ("put", STEP, ({}, [], {})), ("put", STEP), ("put", STEP, DEED, DEED), ["put", STEP, DEED],
            ("puts", STEP, DEED), ("put", (2, 0.0), DEED),
        ):
            draft = good()
            draft[2][4] = origin
            self.check("form", half(), draft)

    def test_shelves_of_no_form(self):
        for shelves in (
            None, [], [(DEED, "k0")], ((DEED, "k0"),), "k0", {}, {OTHER: "k0"}, {DEED: "K0"}, {DEED: ""},
            {DEED: "toolongaa"}, {DEED: "0k"}, {DEED: 0}, {DEED: None}, {DEED: ["k0"]}, {DEED: {}}, {DEED: ("k0",)},
            {DEED: "k0", None: "k1"}, {DEED: "k0", "plus a b": "k1"}, {DEED: "k0", 7: "k1"},
            {DEED: "k0", ("plus", "a"): "k1"}, {DEED: "k0", ("plus", "a", True): "k1"},
            {DEED: "k0", ("plus", "a", -1): "k1"}, {DEED: "k0", DO: "k1"}, {DEED: "k0", OTHER: ["k1"]},
            {DEED: "k0", OTHER: "k-1"},
        ):
            self.check("form", half(), good()[:3] + [shelves])

    def test_shelves_with_one_name_twice(self):
        self.check("form", half(), good()[:3] + [{DEED: "k0", OTHER: "k0"}])
        self.check("form", half(), good()[:3] + [{OTHER: "z", DEED: "k0", ("same", 1, 2): "z"}])

    def test_shelves_with_a_name_of_the_old_plan(self):
        for name in sorted(names_of(half())):
            draft = good()
            draft[0] = [ASK, ("set", name, DEED), ("copy", "x", name), SKIP, ("set", name, DEED), ("copy", "x", name)]
            draft[3] = {DEED: name}
            self.check("form", half(), draft)
            self.check("form", half(), good()[:3] + [{DEED: "k0", OTHER: name}])

    def test_a_deed_in_the_origins_without_a_shelf(self):
        for at in (1, 4):
            draft = good()
            draft[2][at] = draft[2][at][:2] + (OTHER,)
            self.check("form", half(), draft)


class Net(Asked):
    def test_an_own_place_missing_or_twice(self):
        for at, origin in ((5, ("own", 2)), (3, ("own", 1)), (2, ("own", 2)), (0, ("own", 3)), (4, ("own", 3)),
                           (4, ("own", 0)), (1, ("own", 1)), (3, ("put", (0, 1), DEED)), (0, ("put", FIRST, DEED))):
            draft = good()
            draft[2][at] = origin
            self.check("net", half(), draft)

    def test_own_places_changed_one_for_another(self):
        draft = good()
        draft[2][2], draft[2][3] = draft[2][3], draft[2][2]
        self.check("net", half(), draft)
        plan = Plan([ASK, SKIP, SKIP], [[1, 2], [2], []])
        self.check("net", plan, [plan.rows, plan.nexts, [("own", 0), ("own", 2), ("own", 1)], {}])

    def test_two_stores_of_one_place(self):
        plan = chain([SKIP, DO])
        origins = [("own", 0), ("store", 1, DEED), ("store", 1, DEED), ("own", 1)]
        self.check("net", plan, [[SKIP, KEPT, KEPT, COPY], [[1], [2], [3], []], origins, {DEED: "k0"}])
        plan = Plan([ASK, DO], [[1, 1], []])
        origins = [("own", 0), ("store", 1, DEED), ("store", 1, DEED), ("own", 1)]
        self.check("net", plan, [[ASK, KEPT, KEPT, COPY], [[1, 2], [3], [3], []], origins, {DEED: "k0"}])

    def test_a_step_that_leads_elsewhere(self):
        plan = Plan([ASK, SKIP, SKIP, SKIP], [[1, 2], [3], [3], []])
        for nexts in ([[2, 1], [3], [3], []], [[1, 2], [2], [3], []], [[1, 2], [3], [1], []]):
            self.check("net", plan, [plan.rows, nexts, as_it_is(plan)[2], {}])
        # Only that the place is the same one counts where both steps of an ask lead to it.
        plan = Plan([ASK, SKIP], [[1, 1], []])
        self.check(None, plan, as_it_is(plan))
        self.check("net", plan, [[ASK, SKIP], [[0, 1], []], as_it_is(plan)[2], {}])

    def test_a_put_on_another_step_than_it_says(self):
        for step in ((1, 0), (0, 0), (0, 1), FIRST):
            draft = good()
            draft[2][4] = ("put", step, DEED)
            self.check("net", half(), draft)

    def test_a_put_on_the_ways_of_two_steps(self):
        draft = good()
        draft[1][2] = [4]
        self.check("net", half(), draft)
        draft[2][4] = ("put", (1, 0), DEED)
        self.check("net", half(), draft)

    def test_one_put_of_a_step_lies_elsewhere(self):
        # Both puts say (2, 0); one of them is passed by (1, 0).
        draft = good()
        draft[0].insert(4, KEPT)
        draft[1] = [[1, 3], [2], [4], [5], [6], [6], []]
        draft[2].insert(4, ("put", STEP, DEED))
        self.check("net", half(), draft)

    def test_a_put_behind_the_store(self):
        plan = Plan([ASK, DO, SKIP], [[1, 2], [2], []])
        rows = [ASK, KEPT, KEPT, COPY, SKIP]
        nexts = [[1, 4], [2], [3], [4], []]
        self.check(None, plan, [rows, nexts, [("own", 0), ("put", (0, 0), DEED), ("store", 1, DEED), ("own", 1),
                                              ("own", 2)], {DEED: "k0"}])
        self.check("net", plan, [rows, nexts, [("own", 0), ("store", 1, DEED), ("put", (0, 0), DEED), ("own", 1),
                                               ("own", 2)], {DEED: "k0"}])

    def test_a_step_that_passes_the_store_by(self):
        plan = Plan([ASK, DO], [[1, 1], []])
        origins = [("own", 0), ("store", 1, DEED), ("own", 1)]
        self.check(None, plan, [[ASK, KEPT, COPY], [[1, 1], [2], []], origins, {DEED: "k0"}])
        for both in ([1, 2], [2, 1]):
            self.check("net", plan, [[ASK, KEPT, COPY], [both, [2], []], origins, {DEED: "k0"}])

    def test_the_first_step_passes_the_store_by(self):
        plan = Plan([DO, ASK, SKIP], [[1], [0, 2], []])
        origins = [("store", 0, DEED), ("own", 0), ("own", 1), ("own", 2)]
        rows = [KEPT, COPY, ASK, SKIP]
        self.check(None, plan, [rows, [[1], [2], [0, 3], []], origins, {DEED: "k0"}])
        # Place 0 is the own one, the store's place lies on the step back alone.
        self.check("net", plan, [
            [COPY, ASK, KEPT, SKIP], [[1], [2, 3], [0], []],
            [("own", 0), ("own", 1), ("store", 0, DEED), ("own", 2)], {DEED: "k0"},
        ])

    def test_a_store_that_leads_elsewhere(self):
        plan = Plan([ASK, DO, ("set", "y", DEED)], [[1, 2], [2], []])
        rows = [ASK, KEPT, COPY, ("copy", "y", "k0")]
        origins = [("own", 0), ("store", 1, DEED), ("own", 1), ("own", 2)]
        self.check("unready", plan, [rows, [[1, 3], [2], [3], []], origins, {DEED: "k0"}])
        # Its own place is come to by the other step, as far as the plan's form is asked.
        self.check("net", plan, [rows, [[1, 2], [3], [3], []], origins, {DEED: "k0"}])

    def test_two_stores_that_lead_crosswise(self):
        plan = Plan([ASK, DO, ("set", "y", DEED), SKIP], [[1, 2], [3], [3], []])
        rows = [ASK, KEPT, COPY, KEPT, ("copy", "y", "k0"), SKIP]
        origins = [("own", 0), ("store", 1, DEED), ("own", 1), ("store", 2, DEED), ("own", 2), ("own", 3)]
        self.check(None, plan, [rows, [[1, 3], [2], [5], [4], [5], []], origins, {DEED: "k0"}])
        self.check("net", plan, [rows, [[1, 3], [4], [5], [2], [5], []], origins, {DEED: "k0"}])

    def test_two_puts_that_lie_crosswise(self):
        plan = Plan([ASK, SKIP, SKIP, DO], [[1, 2], [3], [3], []])
        rows = [ASK, KEPT, KEPT, SKIP, SKIP, COPY]
        nexts = [[1, 2], [3], [4], [5], [5], []]
        for one, other, word in ((0, 1, None), (1, 0, "net"), (0, 0, "net"), (1, 1, "net")):
            origins = [("own", 0), ("put", (0, one), DEED), ("put", (0, other), DEED), ("own", 1), ("own", 2),
                       ("own", 3)]
            self.check(word, plan, [rows, nexts, origins, {DEED: "k0"}])

    def test_other_numbers_of_next_places(self):
        plan = half()
        rows, nexts, origins, shelves = as_it_is(plan)
        self.check("net", plan, [[ASK, DO, ASK, DO], [[1, 2], [3], [3, 3], []], origins, shelves])
        self.check("net", plan, [[ASK, ASK, SKIP, DO], [[1, 2], [3, 3], [3], []], origins, shelves])
        self.check("net", plan, [rows, [[1, 2], [], [3], []], origins, shelves])
        plan = Plan([ASK, SKIP], [[1, 1], []])
        self.check("net", plan, [[SKIP, SKIP], [[1], []], as_it_is(plan)[2], {}])
        plan = Plan([SKIP, ASK, SKIP], [[1], [2, 0], []])
        self.check("net", plan, [[ASK, ASK, SKIP], [[1, 1], [2, 0], []], as_it_is(plan)[2], {}])

    def test_a_put_or_a_store_with_two_next_places_or_none(self):
        for at in (1, 4):
            draft = good()
            draft[0][at] = ASK
            draft[1][at] = draft[1][at] * 2
            self.check("net", half(), draft)
        draft = good()
        draft[1][4] = []
        self.check("net", half(), draft)

    def test_the_first_step_begins_elsewhere(self):
        # Round a loop each place can be the first one of a plan.
        plan = Plan([SKIP, ASK, SKIP], [[1], [0, 2], []])
        self.check(None, plan, as_it_is(plan))
        self.check("net", plan, [[ASK, SKIP, SKIP], [[1, 2], [0], []], [("own", 1), ("own", 0), ("own", 2)], {}])

    def test_puts_on_the_first_step(self):
        plan = Plan([DO, ASK, SKIP], [[1], [0, 2], []])
        draft = list(draft_of(moved(plan)))
        self.check(None, plan, draft)
        # The step back goes through the put of the first step, too.
        self.check("net", plan, [draft[0], [[1], [2], [0, 3], []], draft[2], draft[3]])


class Rows(Asked):
    def test_a_put_or_a_store_with_another_row(self):
        for at in (1, 4):
            for row in (("set", "k1", DEED), ("set", "x", DEED), ("set", "k0", ("plus", "b", "a")), SKIP, DO, COPY,
                        ("copy", "k0", 1), ("take", "k0"), ("set", "k0", OTHER)):
                draft = good()
                draft[0][at] = row
                self.check("rows", half(), draft)

    def test_a_put_with_the_shelf_of_another_deed(self):
        draft = good()
        draft[3] = {DEED: "k0", OTHER: "k1"}
        draft[0][4] = ("set", "k1", DEED)
        self.check("rows", half(), draft)

    def test_an_own_place_with_another_row(self):
        for row in (("tell", "x"), ("copy", "z", "k0"), KEPT, DO, ("copy", "x", "x"), ("take", "x")):
            draft = good()
            draft[0][3] = row
            self.check("rows", half(), draft)
        for row in (SKIP, ("copy", "x", "k1"), ("copy", "y", "k0"), ("copy", "x", 0), ("set", "y", DEED), ("take", "x"),
                    ("set", "x", ("plus", "b", "a")), KEPT, ("copy", "k0", "x"), ("tell", "k0")):
            draft = good()
            draft[0][5] = row
            self.check("rows", half(), draft)
        draft = good()
        draft[0][0] = ("ask", "x")
        self.check("rows", half(), draft)

    def test_a_copy_for_a_deed_that_has_no_shelf(self):
        plan = Plan([ASK, DO, SKIP, DO, ("set", "y", OTHER)], [[1, 2], [3], [3], [4], []])
        rows, nexts, origins, shelves = draft_of(moved(plan))
        self.check(None, plan, [rows, nexts, origins, shelves])
        for shelf in ("k0", "k1"):
            self.check("rows", plan, [rows[:-1] + [("copy", "y", shelf)], nexts, origins, shelves])
        # With a shelf of its own the copy has the right form, and stands where nothing was put there.
        more = dict(shelves)
        more[OTHER] = "k1"
        self.check("rows", plan, [rows[:-1] + [("copy", "y", "k0")], nexts, origins, more])
        self.check("unready", plan, [rows[:-1] + [("copy", "y", "k1")], nexts, origins, more])

    def test_a_copy_for_a_row_that_does_no_deed(self):
        plan = chain([("take", "x"), DO])
        for row in (COPY, ("copy", "x", "x")):
            self.check("rows", plan, [[row, DO], [[1], []], as_it_is(plan)[2], {DEED: "k0"}])

    def test_a_store_of_another_deed(self):
        other = ("set", "k1", OTHER)
        draft = good()
        draft[0][1] = other
        draft[2][1] = ("store", 1, OTHER)
        draft[3] = {DEED: "k0", OTHER: "k1"}
        self.check("rows", half(), draft)
        draft[0][2] = DO
        self.check("rows", half(), draft)
        draft[0][2] = ("copy", "x", "k1")
        self.check("rows", half(), draft)

    def test_a_store_at_a_place_that_does_no_deed(self):
        plan = chain([SKIP, DO])
        origins = [("store", 0, DEED), ("own", 0), ("own", 1)]
        self.check("rows", plan, [[KEPT, SKIP, COPY], [[1], [2], []], origins, {DEED: "k0"}])

    def test_a_store_whose_own_place_has_the_old_row(self):
        draft = good()
        draft[0][2] = DO
        self.check("rows", half(), draft)


class Unready(Asked):
    def test_a_copy_with_nothing_put(self):
        plan = chain([SKIP, DO])
        self.check("unready", plan, [[SKIP, COPY], [[1], []], as_it_is(plan)[2], {DEED: "k0"}])

    def test_a_copy_that_one_way_alone_has_ready(self):
        # The put on (2, 0) is left out.
        draft = [[ASK, KEPT, COPY, SKIP, COPY], [[1, 3], [2], [4], [4], []],
                 [("own", 0), ("store", 1, DEED), ("own", 1), ("own", 2), ("own", 3)], {DEED: "k0"}]
        self.check("unready", half(), draft)
        # The store is left out; the row that does the deed puts nothing on the shelf.
        draft = [[ASK, DO, SKIP, KEPT, COPY], [[1, 2], [4], [3], [4], []],
                 [("own", 0), ("own", 1), ("own", 2), ("put", STEP, DEED), ("own", 3)], {DEED: "k0"}]
        self.check("unready", half(), draft)

    def test_a_copy_behind_a_row_that_spoils(self):
        for spoil, word in ((SPOIL, "unready"), (("copy", "a", 1), "unready"), (("set", "b", OTHER), "unready"),
                            (("take", "x"), None), (SKIP, None), (("tell", "a"), None)):
            plan = chain([DO, spoil, DO])
            draft = [[KEPT, COPY, spoil, COPY], [[1], [2], [3], []],
                     [("store", 0, DEED), ("own", 0), ("own", 1), ("own", 2)], {DEED: "k0"}]
            self.check(word, plan, draft)

    def test_a_copy_that_spoils_its_own_deed(self):
        plan = chain([DO_AND_SPOIL, DO_AND_SPOIL])
        mine = ("copy", "a", "k0")
        origins = [("store", 0, DEED), ("own", 0), ("own", 1)]
        self.check(None, plan, [[KEPT, mine, DO_AND_SPOIL], [[1], [2], []], origins, {DEED: "k0"}])
        self.check("unready", plan, [[KEPT, mine, mine], [[1], [2], []], origins, {DEED: "k0"}])
        origins = [("store", 0, DEED), ("own", 0), ("store", 1, DEED), ("own", 1)]
        self.check(None, plan, [[KEPT, mine, KEPT, mine], [[1], [2], [3], []], origins, {DEED: "k0"}])

    def test_a_copy_for_another_deed_that_spoils(self):
        # The copy of the one deed's shelf sets an operand of the other one.
        plan = chain([DO, ("set", "a", OTHER), DO])
        origins = [("store", 0, DEED), ("own", 0), ("store", 1, OTHER), ("own", 1), ("own", 2)]
        rows = [KEPT, COPY, ("set", "k1", OTHER), ("copy", "a", "k1"), COPY]
        self.check("unready", plan, [rows, [[1], [2], [3], [4], []], origins, {DEED: "k0", OTHER: "k1"}])
        rows[4] = DO
        self.check(None, plan, [rows, [[1], [2], [3], [4], []], origins, {DEED: "k0", OTHER: "k1"}])

    def test_spoilt_on_one_way_round_a_loop(self):
        plan = Plan([DO, ASK, SPOIL, SKIP], [[1], [2, 3], [0], []])
        self.check("unready", plan, [
            [KEPT, COPY, ASK, SPOIL, SKIP], [[1], [2], [3, 4], [1], []],
            [("put", FIRST, DEED), ("own", 0), ("own", 1), ("own", 2), ("own", 3)], {DEED: "k0"},
        ])
        self.check(None, plan, [
            [KEPT, COPY, ASK, SPOIL, KEPT, SKIP], [[1], [2], [3, 5], [4], [1], []],
            [("put", FIRST, DEED), ("own", 0), ("own", 1), ("own", 2), ("put", (2, 0), DEED), ("own", 3)], {DEED: "k0"},
        ])


class Unwanted(Asked):
    def test_a_put_where_it_is_neither_ready_nor_wanted(self):
        plan = Plan([ASK, DO, SKIP], [[1, 2], [2], []])
        for step, nexts, word in (
            (FIRST, [[1], [2, 3], [3], []], "unwanted"), ((0, 1), [[1, 3], [2], [], [2]], "unwanted"),
            ((0, 0), [[3, 2], [2], [], [1]], None), ((1, 0), [[1, 2], [3], [], [2]], None),
        ):
            rows, origins = list(plan.rows), as_it_is(plan)[2]
            at = 0 if step == FIRST else 3
            rows.insert(at, KEPT)
            origins.insert(at, ("put", step, DEED))
            self.check(word, plan, [rows, nexts, origins, {DEED: "k0"}])

    def test_a_deed_that_the_plan_does_not_do(self):
        for deed in (OTHER, ("plus", "b", "a"), ("plus", "k0", 1), ("same", 1, 1)):
            plan = chain([SKIP, DO])
            origins = [("own", 0), ("put", (0, 0), deed), ("own", 1)]
            self.check("unwanted", plan, [[SKIP, ("set", "k0", deed), DO], [[1], [2], []], origins, {deed: "k0"}])

    def test_one_good_put_and_one_that_is_none(self):
        plan = Plan([ASK, SKIP, DO, SKIP], [[1, 3], [2], [3], []])
        rows = [KEPT, ASK, KEPT, SKIP, COPY, SKIP]
        nexts = [[1], [2, 5], [3], [4], [5], []]
        origins = [("put", FIRST, DEED), ("own", 0), ("put", (0, 0), DEED), ("own", 1), ("own", 2), ("own", 3)]
        self.check("unwanted", plan, [rows, nexts, origins, {DEED: "k0"}])

    def test_ready_and_wanted_are_those_of_the_old_plan(self):
        # In the draft's plan the put on the first step would make the deed ready on (0, 1).
        plan = Plan([ASK, DO, SKIP, SKIP], [[1, 2], [3], [3], []])
        rows = [KEPT, ASK, KEPT, COPY, SKIP, SKIP]
        origins = [("put", FIRST, DEED), ("own", 0), ("put", (0, 1), DEED), ("own", 1), ("own", 2), ("own", 3)]
        self.check("unwanted", plan, [rows, [[1], [3, 2], [4], [5], [5], []], origins, {DEED: "k0"}])
        # And a row left out still counts: behind place 1 the deed is ready.
        plan = chain([SKIP, DO, SKIP])
        rows = [SKIP, KEPT, COPY, KEPT, SKIP]
        origins = [("own", 0), ("put", (0, 0), DEED), ("own", 1), ("put", (1, 0), DEED), ("own", 2)]
        self.check(None, plan, [rows, [[1], [2], [3], [4], []], origins, {DEED: "k0"}])


class TheFirstOfTwo(Asked):
    def test_form_ahead_of_all(self):
        draft = good()
        draft[2][3] = ("own", 1)
        draft[0][4] = ("set", "k1", DEED)
        self.check("net", half(), draft)
        draft[3] = {DEED: "x"}
        self.check("form", half(), draft)

    def test_net_ahead_of_rows(self):
        draft = good()
        draft[0][3] = ("tell", "x")
        self.check("rows", half(), draft)
        draft[2][4] = ("put", (1, 0), DEED)
        self.check("net", half(), draft)

    def test_rows_ahead_of_unready(self):
        plan = chain([SKIP, DO])
        draft = [[SKIP, COPY], [[1], []], as_it_is(plan)[2], {DEED: "k0"}]
        self.check("unready", plan, draft)
        draft[0][0] = ("tell", 1)
        self.check("rows", plan, draft)

    def test_unready_ahead_of_unwanted(self):
        plan = Plan([ASK, DO, SKIP, DO, SKIP], [[1, 2], [2], [3], [4], []])
        # A put on the last step of all, where the deed is ready; then one of another deed, which isn't.
        rows = [ASK, COPY, SKIP, DO, ("set", "k1", OTHER), SKIP]
        nexts = [[1, 2], [2], [3], [4], [5], []]
        origins = [("own", 0), ("own", 1), ("own", 2), ("own", 3), ("put", (3, 0), OTHER), ("own", 4)]
        self.check("unready", plan, [rows, nexts, origins, {DEED: "k0", OTHER: "k1"}])
        rows[1] = DO
        self.check("unwanted", plan, [rows, nexts, origins, {DEED: "k0", OTHER: "k1"}])

    def test_net_ahead_of_unwanted(self):
        plan = chain([SKIP, SKIP])
        draft = [[SKIP, KEPT, SKIP], [[1], [2], []], [("own", 0), ("put", (0, 0), DEED), ("own", 1)], {DEED: "k0"}]
        self.check("unwanted", plan, draft)
        draft[2][1] = ("put", FIRST, DEED)
        self.check("net", plan, draft)


def is_unready(draft, place, shelf, deed):
    """Whether a way comes to the place with nothing on the shelf that counts; by walking places with a mark."""
    rows, nexts, origins, shelves = draft
    seen = set()
    rim = [(0, False)]
    while rim:
        here, lies = rim.pop()
        if here == place and not lies:
            return True
        if (here, lies) not in seen:
            seen.add((here, lies))
            if origins[here][0] != "own" and rows[here][1] == shelf:
                lies = True
            elif spoils(rows[here], deed):
                lies = False
            rim.extend((target, lies) for target in nexts[here])
    return False


def fault_behind_form(plan, draft):
    """Point 23 from "net" on, by another hand."""
    rows, nexts, origins, shelves = draft
    places = range(len(plan.rows))
    own = {place: [k for k, origin in enumerate(origins) if origin == ("own", place)] for place in places}
    kept = {place: [k for k, origin in enumerate(origins) if origin[:2] == ("store", place)] for place in places}
    if any(len(own[place]) != 1 or len(kept[place]) > 1 for place in places):
        return "net"
    for k, origin in enumerate(origins):
        if len(nexts[k]) != (len(plan.nexts[origin[1]]) if origin[0] == "own" else 1):
            return "net"
        if origin[0] == "store" and nexts[k] != own[origin[1]]:
            return "net"
    for step in all_steps(plan):
        puts = sorted(k for k, origin in enumerate(origins) if origin[:2] == ("put", step))
        here = 0 if step == FIRST else nexts[own[step[0]][0]][step[1]]
        passed = []
        while origins[here][0] == "put":
            passed.append(here)
            here = nexts[here][0]
        if sorted(passed) != puts or here != (kept[led(plan, step)] + own[led(plan, step)])[0]:
            return "net"
    copies = []
    for k, origin in enumerate(origins):
        if origin[0] != "own":
            if rows[k] != ("set", shelves[origin[2]], origin[2]):
                return "rows"
            if origin[0] == "store" and not does(plan.rows[origin[1]], origin[2]):
                return "rows"
        elif rows[k] != plan.rows[origin[1]]:
            old = plan.rows[origin[1]]
            if old[0] != "set" or old[2] not in shelves or rows[k] != ("copy", old[1], shelves[old[2]]):
                return "rows"
            copies.append((k, old[2]))
        elif kept[origin[1]]:
            return "rows"
    if any(is_unready(draft, k, shelves[deed], deed) for k, deed in copies):
        return "unready"
    for origin in origins:
        if origin[0] == "put":
            step, deed = origin[1:]
            ready = step != FIRST and ready_tables(plan, deed)[1][step[0]]
            if not ready and not wanted_tables(plan, deed)[0][led(plan, step)]:
                return "unwanted"
    return None


def spoilt_draft(dice, plan, draft):
    """One part of the draft changed, mostly such that its form is right."""
    rows, nexts, origins, shelves = copy.deepcopy(draft)
    deeds = deeds_of(plan) + [OTHER]
    at = dice.below(len(rows))
    turn = dice.below(8)
    if turn == 0:
        rows[at] = dice.one_of(plan.rows + rows)
    elif turn == 1 and nexts[at]:
        nexts[at][dice.below(len(nexts[at]))] = dice.below(len(rows))
    elif turn == 2:
        steps = all_steps(plan)
        origins[at] = dice.one_of([("put", dice.one_of(steps), dice.one_of(deeds)), ("own", dice.below(len(plan.rows))),
                                   ("store", dice.below(len(plan.rows)), dice.one_of(deeds))])
    elif turn == 3 and rows[at][0] == "copy" and origins[at][0] == "own":
        rows[at] = plan.rows[origins[at][1]]
    elif turn == 4 and origins[at][0] == "own" and plan.rows[origins[at][1]][0] == "set":
        row = plan.rows[origins[at][1]]
        rows[at] = ("copy", row[1], shelves.get(row[2], "k9"))
    elif turn == 5 and origins[at][0] == "put":
        # The put is taken off its step: whatever led to it leads on, and the last place takes its number.
        for following in nexts:
            following[:] = [nexts[at][0] if place == at else place for place in following]
        if at:
            last = len(rows) - 1
            for things in (rows, nexts, origins):
                things[at] = things[last]
                things.pop()
            for following in nexts:
                following[:] = [at if place == last else place for place in following]
    elif turn >= 6:
        # A put more, on some step that doesn't lead to place 0 alone.
        step = dice.one_of(all_steps(plan)[1:] or [FIRST])
        deed = dice.one_of(deeds)
        shelves.setdefault(deed, "z%d" % len(shelves))
        if step != FIRST:
            own = origins.index(("own", step[0]))
            rows.append(("set", shelves[deed], deed))
            origins.append(("put", step, deed))
            nexts.append([nexts[own][step[1]]])
            nexts[own][step[1]] = len(rows) - 1
    return (rows, nexts, origins, shelves)


class ByAnotherHand(Asked):
    def test_thrown_drafts(self):
        dice = Dice(311)
        told = {}
        for plan in small_plans(311, 800, 4):
            for turn in range(8):
                draft = draft_of(moved(plan, dice.one_of(helds(plan, dice))))
                for change in range(1 + dice.below(2)):
                    if ("own", 0) in draft[2] and all(("own", place) in draft[2] for place in range(len(plan.rows))):
                        draft = spoilt_draft(dice, plan, draft)
                word = fault(plan, draft)
                told[word] = told.get(word, 0) + 1
                if word == "form":
                    named = all(origin[0] == "own" or origin[2] in draft[3] for origin in draft[2])
                    self.assertTrue(refusal(Plan, draft[0], draft[1]) is not None or not named)
                else:
                    with self.subTest(rows=plan.rows, nexts=plan.nexts, draft=draft):
                        self.assertEqual(word, fault_behind_form(plan, draft))
        for word in ("form", "net", "rows", "unready", "unwanted", None):
            self.assertGreater(told[word], 40, word)


def drafts_for(plan, deed):
    """All drafts that put one deed at most once on each step, and store and copy wherever."""
    places = range(len(plan.rows))
    doing = [place for place in places if does(plan.rows[place], deed)]
    steps = all_steps(plan)
    for put in itertools.product((False, True), repeat=len(steps)):
        puts = [step for step, truth in zip(steps, put) if truth]
        for marks in itertools.product(("old", "copy", "store"), repeat=len(doing)):
            mark = dict(zip(doing, marks))
            yield puts, mark, written(plan, deed, puts, mark)


def written(plan, deed, puts, mark):
    origins = [("put", FIRST, deed)] if FIRST in puts else []
    for place in range(len(plan.rows)):
        origins += [("store", place, deed)] if mark.get(place) == "store" else []
        origins.append(("own", place))
        origins += [("put", (place, at), deed) for at in range(len(plan.nexts[place])) if (place, at) in puts]

    def entered(place):
        return origins.index(("store", place, deed) if mark.get(place) == "store" else ("own", place))

    rows, nexts = [], []
    for origin in origins:
        row = plan.rows[origin[1]] if origin[0] == "own" else ("set", "k0", deed)
        if origin[0] == "own" and mark.get(origin[1], "old") != "old":
            row = ("copy", row[1], "k0")
        rows.append(row)
        if origin[0] == "put":
            nexts.append([entered(led(plan, origin[1]))])
        elif origin[0] == "store":
            nexts.append([origins.index(("own", origin[1]))])
        else:
            steps = [(origin[1], at) for at in range(len(plan.nexts[origin[1]]))]
            nexts.append([origins.index(("put", step, deed)) if step in puts else entered(led(plan, step))
                          for step in steps])
    return (rows, nexts, origins, {deed: "k0"})


def alive_behind(plan, deed, puts, mark, place):
    """Point 24: some way on to a place that copies, with no put on its steps and nothing that does it ahead."""
    for way in ways_on(plan, place):
        places = walked(plan, way)
        copies = mark.get(places[-1], "old") != "old"
        if copies and not any(step in puts for step in way):
            # A row that does the deed in the old plan is left out where it is a copy, and a store does it.
            if not any(mark.get(other) in ("old", "store") for other in places[:-1]) and mark[places[-1]] != "store":
                return True
    return False


class AllDrafts(unittest.TestCase):
    """Points 5 and 24: what holds of every draft that is let by."""

    def test_no_draft_does_a_deed_less_often_or_keeps_it_for_less(self):
        seen = [0, 0, 0]
        for plan in small_plans(321, 60, 4):
            if not any(does(row, DEED) for row in plan.rows) or len(all_steps(plan)) > 6:
                continue
            brinks = brink_list(plan, DEED)
            ways = whole_ways(plan)
            wanted = [sum(step in brinks for step in way) for way in ways]
            choice = Choice(plan, DEED)
            living = [place for place in range(len(plan.rows)) if choice.alive_behind(place)]
            for puts, mark, draft in drafts_for(plan, DEED):
                seen[0] += 1
                if fault(plan, draft) is not None:
                    continue
                seen[1] += 1
                many = [
                    sum(step in puts for step in way)
                    + sum(mark.get(place) in ("old", "store") for place in walked(plan, way)) for way in ways
                ]
                self.assertTrue(all(one >= least for one, least in zip(many, wanted)))
                if many == wanted:
                    seen[2] += 1
                    for place in living:
                        with self.subTest(rows=plan.rows, nexts=plan.nexts, draft=draft):
                            self.assertTrue(alive_behind(plan, DEED, puts, mark, place))
        self.assertGreater(seen[0], 2000)
        self.assertGreater(seen[1], 200)
        self.assertGreater(seen[2], 50)

    def test_what_is_let_by_runs_as_the_old_plan(self):
        dice = Dice(322)
        runs = 0
        for plan in small_plans(322, 200, 4, RUN_POOL):
            for deed in deeds_of(plan):
                for puts, mark, draft in drafts_for(plan, deed):
                    if dice.below(8) or "k0" in names_of(plan):
                        continue
                    if fault(plan, draft) is None:
                        start = {name: dice.below(3) for name in ("a", "b", "q", "x", "k0")}
                        taken = [dice.below(3) for k in range(6)]
                        old = run(plan, start, taken, 40)
                        new = run(Plan(draft[0], draft[1]), start, taken, 4000)
                        if old[3]:
                            runs += 1
                            self.assertEqual((new[0], new[3]), (old[0], True))
                            for name in set(names_of(plan)) | {"a", "b", "q", "x"}:
                                self.assertEqual(new[2].get(name, 0), old[2].get(name, 0))
        self.assertGreater(runs, 100)


class Copies(unittest.TestCase):
    def test_the_draft_and_the_plan_stay(self):
        dice = Dice(331)
        for plan in small_plans(331, 100, 5):
            draft = draft_of(moved(plan, dice.one_of(helds(plan, dice))))
            spoilt = spoilt_draft(dice, plan, draft)
            for thing in (draft, spoilt):
                before = copy.deepcopy(thing)
                kept = (list(plan.rows), copy.deepcopy(plan.nexts), plan.steps())
                word = fault(plan, thing)
                self.assertEqual(thing, before)
                self.assertEqual(list(thing[3].items()), list(before[3].items()))
                self.assertEqual((plan.rows, plan.nexts, plan.steps()), kept)
                self.assertEqual(fault(plan, thing), word)

    def test_a_draft_that_was_bad_once_is_asked_anew(self):
        draft = good()
        draft[0][3] = ("tell", 1)
        self.assertEqual(fault(half(), tuple(draft)), "rows")
        draft[0][3] = SKIP
        self.assertIsNone(fault(half(), tuple(draft)))
        draft[1][2] = [4]
        self.assertEqual(fault(half(), tuple(draft)), "net")

    def test_things_that_hold_themselves(self):
        ring_list = []
        ring_list.append(ring_list)
        for at in range(3):
            draft = good()
            draft[at] = ring_list
            self.assertEqual(fault(half(), tuple(draft)), "form")


if __name__ == "__main__":
    unittest.main()
