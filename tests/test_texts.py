"""Point 29: plans as texts. Points 3 and 4 for these."""

import copy
import unittest

from oncedone.errors import NoText, OnceError
from oncedone.plans import Plan
from oncedone.texts import read, shown
from tests.helper import ASK, COPY_POOL, NO_LISTS, RUN_POOL, SKIP, Dice, backward_chain, chain, grown_plans, refusal
from tests.helper import ring, small_plans

EXAMPLE = "take a > 1; set b plus a 1 > 2; ask b > 0 3; tell b"
TOP = 10 ** 12 - 1


def form(plan):
    return (plan.rows, plan.nexts)


def shown_by_hand(plan):
    text = ""
    for place, row in enumerate(plan.rows):
        text += "; " if place else ""
        text += row[0]
        if row[0] == "set":
            text += " %s %s %s %s" % (row[1], row[2][0], row[2][1], row[2][2])
        else:
            text += "".join(" %s" % word for word in row[1:])
        if plan.nexts[place]:
            text += " >" + "".join(" %d" % target for target in plan.nexts[place])
    return text


class Texts(unittest.TestCase):
    def check(self, rows, nexts, text):
        plan = Plan(rows, nexts)
        self.assertEqual(shown(plan), text)
        told = read(text)
        self.assertIs(type(told), Plan)
        self.assertEqual(form(told), (rows, nexts))
        self.assertTrue(all(type(row) is tuple for row in told.rows))

    def test_the_example(self):
        self.check(
            [("take", "a"), ("set", "b", ("plus", "a", 1)), ("ask", "b"), ("tell", "b")], [[1], [2], [0, 3], []],
            EXAMPLE,
        )

    def test_every_kind_of_row(self):
        for row, text in (
            (("set", "x", ("plus", "a", "b")), "set x plus a b"), (("set", "x", ("minus", 0, 7)), "set x minus 0 7"),
            (("set", "x", ("times", "x", 10)), "set x times x 10"), (("set", "x", ("less", 1, "b")), "set x less 1 b"),
            (("set", "x", ("same", "y", "y")), "set x same y y"), (("copy", "a", "b"), "copy a b"),
            (("copy", "a", 12), "copy a 12"), (("take", "a9"), "take a9"), (("tell", "abcdefgh"), "tell abcdefgh"),
            (("tell", 0), "tell 0"), (("skip",), "skip"),
        ):
            self.check([row], [[]], text)
            self.check([row, SKIP], [[1], []], text + " > 1; skip")
            self.check([SKIP, row], [[1], []], "skip > 1; " + text)
        self.check([("ask", "q"), SKIP], [[1, 1], []], "ask q > 1 1; skip")
        self.check([("ask", 0), SKIP], [[0, 1], []], "ask 0 > 0 1; skip")

    def test_names_that_are_words(self):
        for word in ("set", "copy", "take", "tell", "ask", "skip", "plus", "minus", "times", "less", "same"):
            self.check(
                [("set", word, ("plus", word, word)), ("copy", word, word), ("take", word), ("tell", word)],
                [[1], [2], [3], []],
                "set W plus W W > 1; copy W W > 2; take W > 3; tell W".replace("W", word),
            )
            self.check([("ask", word), SKIP], [[1, 0], []], "ask %s > 1 0; skip" % word)

    def test_values(self):
        for value in (0, 1, 9, 10, 100, 101, 10 ** 11, TOP):
            self.check([("tell", value)], [[]], "tell %d" % value)
            self.check([("copy", "a", value)], [[]], "copy a %d" % value)
            self.check([("set", "a", ("less", value, value))], [[]], "set a less %d %d" % (value, value))

    def test_places_of_several_figures(self):
        text = "; ".join("skip > %d" % (place + 1) for place in range(120)) + "; skip"
        self.check([SKIP] * 121, [[place + 1] for place in range(120)] + [[]], text)

    def test_400_places(self):
        row = ("set", "abcdefgh", ("minus", "bcdefghi", TOP))
        for plan in (chain([row] * 400), backward_chain([row] * 400), ring([row] * 398)):
            text = shown(plan)
            self.assertEqual(text, shown_by_hand(plan))
            self.assertEqual(form(read(text)), form(plan))
        asking = Plan([("ask", "abcdefgh")] * 399 + [row], [[399, place + 1] for place in range(399)] + [[]])
        self.assertEqual(form(read(shown(asking))), form(asking))

    def test_thrown_plans(self):
        for plan in small_plans(801, 150, 6) + grown_plans(802, 200, 30, RUN_POOL + COPY_POOL):
            text = shown(plan)
            self.assertIs(type(text), str)
            self.assertEqual(text, shown_by_hand(plan))
            told = read(text)
            self.assertEqual(form(told), form(plan))
            self.assertEqual(shown(told), text)


class NoTexts(unittest.TestCase):
    def check(self, text):
        with self.subTest(text=text):
            self.assertEqual(refusal(read, text), (NoText, None))

    def test_the_refusal(self):
        for thing in ("", None):
            try:
                read(thing)
                self.fail("it was read")
            except OnceError as error:
                self.assertIs(type(error), NoText)

    def test_things_that_are_no_texts(self):
        for thing in [thing for thing in NO_LISTS if not isinstance(thing, str)] + [
            [], [EXAMPLE], (EXAMPLE,), {EXAMPLE: 1}, read(EXAMPLE), Plan, ([SKIP], [[]]), 10 ** 30, [["skip"]],
        ]:
            self.check(thing)

    def test_the_empty_text_and_empty_places(self):
        for text in ("", " ", ";", "; ", "; ; ", "skip; ", "; skip", "skip > 1; ; skip", "skip > 1; skip; ", ";skip",
                     "skip;", "skip > 1;; skip"):
            self.check(text)

    def test_blanks(self):
        for k, sign in enumerate(EXAMPLE):
            if sign == " ":
                self.check(EXAMPLE[:k] + EXAMPLE[k + 1:])
                self.check(EXAMPLE[:k] + " " + EXAMPLE[k:])
                self.check(EXAMPLE[:k] + "\n" + EXAMPLE[k + 1:])
                self.check(EXAMPLE[:k] + "\t" + EXAMPLE[k + 1:])
                self.check(EXAMPLE[:k] + "\n" + EXAMPLE[k:])
        for text in (EXAMPLE, "skip"):
            for sign in (" ", "\n", "  "):
                self.check(sign + text)
                self.check(text + sign)
        self.assertIsNone(refusal(read, EXAMPLE))

    def test_semicolons(self):
        for text in (EXAMPLE.replace("; ", ";"), EXAMPLE.replace("; ", " ; "), EXAMPLE.replace("; ", ";  "),
                     EXAMPLE.replace("; ", ";\n"), EXAMPLE + ";", EXAMPLE + "; ", EXAMPLE.replace("; ", ", ")):
            self.check(text)

    def test_numbers(self):
        for word in ("00", "01", "007", "+1", "-1", "-0", "+0", "1.0", "1e3", "1_000", "0x1", "1000000000000",
                     "9" * 13, "9" * 30, "0" * 12, "000000000001", "1 ", " 1", "A", "aB", "abcdefghi", "a_b", "1a", "",
                     "a-b", ">", ";", "True", "None", "'a'"):
            self.check("tell " + word)
            self.check("copy a " + word)
            self.check("set a plus " + word + " 1")
            self.check("set a plus 1 " + word)
            self.check("ask " + word + " > 1 1; skip")

    def test_a_number_of_many_figures(self):
        for many in (31, 4300, 4301, 20000):
            self.check("tell " + "9" * many)
            self.check("tell 0" + "1" * many)

    def test_places(self):
        for word in ("01", "00", "+1", "-1", "2", "3", "400", "9" * 30, "a", "", "1.0", "1 1", "1 0", ">", "> 1", "1 >",
                     "1 > 1", "1 ", "A", "one"):
            self.check("skip > " + word + "; skip")
        for words in ("1", "1 1 1", "", "1 2", "1 a", "1 01", "1 -1", "1  1", "1 1 ", "a 1", "1 > 1", "1, 1"):
            self.check("ask q > " + words + "; skip")

    def test_a_missing_or_a_second_mark(self):
        for text in (
            "skip 1; skip", "skip >1; skip", "skip> 1; skip", "skip >; skip", "skip >", "skip > ", "> 1; skip", ">",
            "skip > > 1; skip", "skip > 1 >; skip", "skip >> 1; skip", "> skip > 1; skip", "skip > 1; skip >",
            "skip > 1; skip > ", "ask q 1 1; skip", "ask > 1 1; skip", "ask q > 1 > 1; skip", "tell > > 1; skip",
        ):
            self.check(text)

    def test_words(self):
        for text in (
            "Skip", "SKIP", "sKip", "skips", "ski", "skip skip", "skip a", "tell", "tell a b", "tell A", "take",
            "take 1", "take a b", "copy", "copy a", "copy 1 a", "copy a b c", "set", "set a", "set a plus",
            "set a plus b", "set a plus b c d", "set 1 plus a b", "set a Plus b c", "set a add b c", "set plus a b",
            "set a 1 b c", "copy a plus b c", "tell a plus b c", "skip a plus b c", "take a plus b c", "1 a plus b c",
            "plus a b", "a", "1", "ask", "Tell a", "set a (plus b c)", "('skip',)", "set a b plus c",
        ):
            self.check(text)
        for text in (EXAMPLE.upper(), EXAMPLE.replace("take", "Take"), EXAMPLE.replace("plus", "Plus"),
                     EXAMPLE.replace(" b", " B")):
            self.check(text)

    def test_what_a_plan_would_refuse(self):
        for text in (
            # A place that isn't come to; places from which no stop is come to; next places beyond.
            "skip; skip", "skip > 0; skip", "skip > 0", "skip > 1; skip > 0", "skip > 1; skip > 1", "skip > 1",
            "ask q > 0 0; skip", "ask q > 1 2; skip", "ask q > 1 1; skip > 2; skip > 1",
            # Too many or too few next places for the row.
            "ask q", "ask q > 1; skip", "ask q > 1 1 1; skip", "skip > 1 1; skip", "tell a > 1 2; skip; skip",
            "set a plus b c > 1 1; skip",
        ):
            self.check(text)

    def test_401_places(self):
        for many in (401, 402, 1000):
            self.check("; ".join("skip > %d" % (place + 1) for place in range(many - 1)) + "; skip")
        text = "; ".join("skip > %d" % (place + 1) for place in range(399)) + "; skip"
        self.assertEqual(len(read(text).rows), 400)

    def test_each_sign_left_out_or_changed(self):
        """Whatever is read is shown as that very text."""
        dice = Dice(811)
        taken = refused = 0
        signs = " >;0123456789abckpst\n-+A"
        for plan in small_plans(811, 60, 5, RUN_POOL + COPY_POOL):
            text = shown(plan)
            for turn in range(40):
                k = dice.below(len(text) + 1)
                changed = text[:k] + ("" if dice.below(2) else dice.one_of(signs)) + text[k + dice.below(2):]
                try:
                    self.assertEqual(shown_by_hand(read(changed)), changed)
                    taken += 1
                except NoText:
                    refused += 1
        self.assertGreater(taken, 100)
        self.assertGreater(refused, 1000)

    def test_what_was_refused_once_is_taken_as_soon_as_it_is_right(self):
        self.check(EXAMPLE + " ")
        self.assertEqual(shown(read(EXAMPLE)), EXAMPLE)


class Copies(unittest.TestCase):
    def test_each_plan_read_is_another(self):
        first, second = read(EXAMPLE), read(EXAMPLE)
        wanted = copy.deepcopy(form(first))
        first.rows.clear()
        first.nexts[0].clear()
        self.assertEqual(form(second), wanted)
        self.assertEqual(form(read(EXAMPLE)), wanted)

    def test_the_plan_stays(self):
        for plan in [Plan([ASK, SKIP], [[1, 0], []]), read(EXAMPLE)]:
            before = (list(plan.rows), copy.deepcopy(plan.nexts), plan.steps())
            text = shown(plan)
            self.assertEqual(shown(plan), text)
            self.assertEqual((plan.rows, plan.nexts, plan.steps()), before)


if __name__ == "__main__":
    unittest.main()
