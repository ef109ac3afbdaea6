"""Point 2: the kinds. Point 3: asking changes nothing."""

import copy
import unittest

from oncedone.words import is_deed, is_name, is_operand, is_row, is_value, is_whole

TOP = 10 ** 12

VALUES = [0, 1, 9, 10, 999, TOP - 2, TOP - 1]
OTHER_WHOLES = [-1, -2, -TOP, TOP, TOP + 1, 10 ** 29, -(10 ** 29), 10 ** 30 - 1, 2 ** 64]

NAMES = [
    "a", "z", "m", "a0", "a9", "z5", "ab", "abcdefgh", "a1234567", "zzzzzzzz", "k0", "x1y2z3",
    "plus", "minus", "times", "less", "same", "set", "copy", "take", "tell", "ask", "skip", "none", "true",
]
NO_NAMES = [
    "", "abcdefghi", "a12345678", "a" * 1000, "0", "9", "0a", "1abc", "A", "Z", "aB", "Ab", "abC", " ", " a", "a ",
    "a b", "a\n", "\n", "\na", "a\nb", "abcdefg\n", "abcdefgh\n", "_", "_a", "a_", "a_b", "-", "-a", "a-b", "a-",
    "-1", "a.b", "a+", "`", "a`", "{", "a{", "a@", "a[", "a/", "a:", "/", ":", "~", "a~", "a;", ">", "a!",
]

# Things that are of no kind, whatever is asked.
NOTHINGS = [
    None, True, False, (), [], {}, [1], ["a"], (1,), ("a",), {"a": 1}, {1: "a"}, [[]], ((),), ([],), ({},),
    (None,), (True,), [("skip",)], (("skip",),), {"skip": ()}, [{}], ({"a": [1, ("b",)]},), [None, True, ["a", (0,)]],
]

DEED_WORDS = ["plus", "minus", "times", "less", "same"]
OPERANDS = ["a", "b7", "abcdefgh", "plus", "set", 0, 1, TOP - 1]
DEEDS = [(kind, one, other) for kind in DEED_WORDS for one in OPERANDS for other in OPERANDS]

NO_OPERANDS = NOTHINGS + OTHER_WHOLES + NO_NAMES + [("plus", "a", 1)]
NO_DEED_WORDS = [
    "", "pluss", "plu", "Plus", "PLUS", " plus", "plus ", "plus\n", "set", "copy", "divide", "over", "more", "+",
    "a", "skip", "lessame", 0, 1, TOP, ("plus",), ["plus"], {"plus": 1},
] + NOTHINGS
NO_DEEDS = (
    NOTHINGS
    + [(word, "a", 1) for word in NO_DEED_WORDS]
    + [("plus", one, 1) for one in NO_OPERANDS]
    + [("same", "a", other) for other in NO_OPERANDS]
    + [("plus",), ("plus", "a"), ("plus", "a", 1, 2), ("plus", "a", 1, None), ("plus", "a", "b", "c", "d"), ("a", 1)]
    + [["plus", "a", 1], {"plus": "a"}, {0: "plus", 1: "a", 2: 1}, "plus a 1", "plus", (("plus", "a", 1),)]
    + [("a", "plus", 1), (1, "a", "plus"), ("skip",), ("set", "a", ("plus", "a", 1))]
)

ROWS = (
    [("set", name, deed) for name in ("a", "set", "abcdefgh", "q9") for deed in DEEDS]
    + [("copy", name, operand) for name in NAMES for operand in OPERANDS]
    + [("take", name) for name in NAMES]
    + [("tell", operand) for operand in OPERANDS + NAMES + VALUES]
    + [("ask", operand) for operand in OPERANDS + NAMES + VALUES]
    + [("skip",)]
)

NO_NAME_HERE = NO_OPERANDS + VALUES
NO_ROW_WORDS = [
    "", "sets", "se", "Set", "SET", " set", "set ", "set\n", "plus", "put", "told", "a", 0, 1, ("set",), ["set"],
] + NOTHINGS
RIGHT_RESTS = [("a", ("plus", "a", 1)), ("a", "b"), ("a",), (7,), ()]
NO_ROWS = (
    NOTHINGS
    + [(word,) + rest for word in NO_ROW_WORDS for rest in RIGHT_RESTS]
    + [("set", name, ("plus", "a", 1)) for name in NO_NAME_HERE]
    + [("set", "a", deed) for deed in NO_DEEDS + OPERANDS]
    + [("copy", name, "b") for name in NO_NAME_HERE]
    + [("copy", "a", operand) for operand in NO_OPERANDS]
    + [("take", name) for name in NO_NAME_HERE]
    + [(word, operand) for word in ("tell", "ask") for operand in NO_OPERANDS]
    + [("set",), ("set", "a"), ("set", ("plus", "a", 1)), ("set", "a", ("plus", "a", 1), 0)]
    + [("set", "a", "plus", "a", 1), ("set", ("plus", "a", 1), "a"), ("set", "a", "b"), ("set", "a", 1)]
    + [("copy",), ("copy", "a"), ("copy", "a", "b", "c"), ("copy", "a", 1, None), ("copy", 1, "a")]
    + [("take",), ("take", "a", "b"), ("take", "a", 1), ("take", 1), ("take", "a", ("plus", "a", 1))]
    + [("tell",), ("tell", "a", "b"), ("tell", 1, 2), ("ask",), ("ask", "a", "b"), ("ask", 1, 2), ("ask", "a", None)]
    + [("skip", "a"), ("skip", 0), ("skip", None), ("skip", ()), ("skip", "skip")]
    + [list(row) for row in (("set", "a", ("plus", "a", 1)), ("copy", "a", 1), ("take", "a"), ("tell", 1), ("skip",))]
    + ["set", "skip", "take a", "set a plus a 1", {"skip": True}, {0: "skip"}, 0, 5, TOP]
    + DEEDS[:3]
)


class Kinds(unittest.TestCase):
    def tell(self, ask, things, wanted):
        for thing in things:
            with self.subTest(ask=ask.__name__, thing=repr(thing)[:80]):
                self.assertIs(ask(thing), wanted)

    def test_wholes(self):
        self.tell(is_whole, VALUES + OTHER_WHOLES, True)

    def test_no_wholes(self):
        self.tell(is_whole, NOTHINGS + NAMES + NO_NAMES + DEEDS[:3] + ["1", "0"], False)

    def test_values(self):
        self.tell(is_value, VALUES, True)

    def test_no_values(self):
        self.tell(is_value, OTHER_WHOLES + NOTHINGS + NAMES + NO_NAMES + DEEDS[:3] + ["1", "0"], False)

    def test_names(self):
        self.tell(is_name, NAMES, True)
        self.tell(is_name, list("abcdefghijklmnopqrstuvwxyz"), True)
        self.tell(is_name, ["a" + sign for sign in "abcdefghijklmnopqrstuvwxyz0123456789"], True)
        self.tell(is_name, ["abcdefghi"[:many] for many in range(1, 9)], True)

    def test_no_names(self):
        self.tell(is_name, NO_NAMES + NOTHINGS + VALUES + OTHER_WHOLES + DEEDS[:3], False)

    def test_each_sign_in_each_place_of_a_name(self):
        letters = "abcdefghijklmnopqrstuvwxyz"
        signs = [chr(number) for number in range(32, 127)] + ["\n"]
        for sign in signs:
            with self.subTest(sign=sign):
                self.assertIs(is_name(sign), sign in letters)
                self.assertIs(is_name(sign + "b"), sign in letters)
                self.assertIs(is_name("a" + sign + "b"), sign in letters + "0123456789")
                self.assertIs(is_name("abcdefg" + sign), sign in letters + "0123456789")

    def test_operands(self):
        self.tell(is_operand, NAMES + VALUES, True)

    def test_no_operands(self):
        self.tell(is_operand, NO_OPERANDS + DEEDS[:3] + ["1", "0"], False)

    def test_deeds(self):
        self.tell(is_deed, DEEDS, True)

    def test_no_deeds(self):
        self.tell(is_deed, NO_DEEDS + VALUES + OTHER_WHOLES + NAMES, False)

    def test_rows(self):
        self.tell(is_row, ROWS, True)

    def test_no_rows(self):
        self.tell(is_row, NO_ROWS, False)

    def test_a_deed_or_row_with_one_thing_less_or_more_or_as_a_list(self):
        for thing, ask in [(deed, is_deed) for deed in DEEDS] + [(row, is_row) for row in ROWS]:
            for spoilt in (thing[:-1], thing + ("a",), thing + (None,), (thing,), list(thing), [thing]):
                with self.subTest(spoilt=spoilt):
                    self.assertIs(ask(spoilt), False)

    def test_very_deep_things(self):
        deep_list = []
        deep_tuple = ()
        for depth in range(5000):
            deep_list = [deep_list]
            deep_tuple = (deep_tuple,)
        for ask in (is_whole, is_value, is_name, is_operand, is_deed, is_row):
            self.assertIs(ask(deep_list), False)
            self.assertIs(ask(deep_tuple), False)
            self.assertIs(ask(("set", "a", ("plus", "a", deep_list))), False)
            self.assertIs(ask((deep_list, "a", deep_tuple)), False)


class AskingChangesNothing(unittest.TestCase):
    def test_things_stay_and_answers_too(self):
        asks = (is_whole, is_value, is_name, is_operand, is_deed, is_row)
        things = VALUES + NAMES + NO_OPERANDS + NO_DEEDS + NO_ROWS + [("set", "a", ["plus", "a", [1]])]
        before = copy.deepcopy(things)
        first = [[ask(thing) for ask in asks] for thing in things]
        second = [[ask(thing) for ask in asks] for thing in things]
        self.assertEqual(first, second)
        self.assertEqual(things, before)


if __name__ == "__main__":
    unittest.main()
