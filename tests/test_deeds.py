"""Point 6: worths. Point 7: what rows do, set, read and spoil. Point 3 for both."""

import copy
import unittest

from oncedone.deeds import deed_of, does, reads_of, set_by, spoils, worth, worth_of

TOP = 10 ** 12


class Worths(unittest.TestCase):
    def test_worth_of_an_operand(self):
        store = {"a": 5, "b": 0, "c": TOP - 1}
        for operand, wanted in (("a", 5), ("b", 0), ("c", TOP - 1), ("d", 0), (0, 0), (7, 7), (TOP - 1, TOP - 1)):
            self.assertEqual(worth_of(operand, store), wanted)
        self.assertEqual(worth_of("a", {}), 0)
        self.assertEqual(worth_of(5, {}), 5)

    def check(self, kind, cases):
        for one, other, wanted in cases:
            stores = (
                ((kind, one, other), {}),
                ((kind, "a", "b"), {"a": one, "b": other}),
                ((kind, "a", other), {"a": one, "b": 77}),
                ((kind, one, "b"), {"a": 77, "b": other}),
                ((kind, kind, "set"), {kind: one, "set": other}),
            )
            for deed, store in stores:
                with self.subTest(deed=deed, store=store):
                    told = worth(deed, store)
                    self.assertEqual(told, wanted)
                    self.assertIs(type(told), int)

    def test_plus(self):
        self.check("plus", (
            (0, 0, 0), (2, 3, 5), (0, 9, 9), (TOP - 1, 0, TOP - 1), (TOP - 2, 1, TOP - 1), (TOP - 1, 1, 0),
            (1, TOP - 1, 0), (TOP - 1, 2, 1), (TOP - 1, TOP - 1, TOP - 2),
        ))

    def test_minus(self):
        self.check("minus", (
            (0, 0, 0), (5, 3, 2), (3, 5, TOP - 2), (0, 1, TOP - 1), (0, TOP - 1, 1), (TOP - 1, TOP - 1, 0),
            (TOP - 1, 0, TOP - 1), (9, 9, 0),
        ))

    def test_times(self):
        self.check("times", (
            (0, 0, 0), (6, 7, 42), (0, TOP - 1, 0), (TOP - 1, 1, TOP - 1), (10 ** 6, 10 ** 6, 0),
            (10 ** 6, 10 ** 6 + 1, 10 ** 6), (TOP - 1, 2, TOP - 2), (TOP - 1, TOP - 1, 1),
            (123456789012, 987654321098, (123456789012 * 987654321098) % TOP),
        ))

    def test_less(self):
        self.check("less", (
            (0, 0, 0), (0, 1, 1), (1, 0, 0), (4, 4, 0), (9, 10, 1), (TOP - 2, TOP - 1, 1), (TOP - 1, 0, 0),
            (TOP - 1, TOP - 1, 0), (0, TOP - 1, 1),
        ))

    def test_same(self):
        self.check("same", (
            (0, 0, 1), (0, 1, 0), (1, 0, 0), (4, 4, 1), (TOP - 1, TOP - 1, 1), (TOP - 1, TOP - 2, 0), (0, TOP - 1, 0),
        ))

    def test_names_that_the_store_has_not_are_worth_nought(self):
        for deed, wanted in (
            (("plus", "x", 4), 4), (("minus", "x", 4), TOP - 4), (("minus", 4, "x"), 4), (("times", "x", 4), 0),
            (("less", "x", 4), 1), (("less", 4, "x"), 0), (("less", "x", "y"), 0), (("same", "x", "y"), 1),
            (("same", "x", 0), 1), (("same", "a", "x"), 0), (("plus", "a", "x"), 3),
        ):
            self.assertEqual(worth(deed, {"a": 3}), wanted)

    def test_the_same_operand_twice(self):
        store = {"a": TOP - 3}
        for kind, by_name, by_value in (
            ("plus", TOP - 6, 14), ("minus", 0, 0), ("times", 9, 49), ("less", 0, 0), ("same", 1, 1),
        ):
            self.assertEqual(worth((kind, "a", "a"), store), by_name)
            self.assertEqual(worth((kind, 7, 7), store), by_value)

    def test_the_store_stays_as_it_was(self):
        store = {"b": 2, "a": TOP - 1}
        for kind in ("plus", "minus", "times", "less", "same"):
            for one in ("a", "b", "c", 5):
                for other in ("a", "b", "d", 5):
                    first = worth((kind, one, other), store)
                    self.assertEqual(worth((kind, one, other), store), first)
                    worth_of(one, store)
        self.assertEqual(list(store.items()), [("b", 2), ("a", TOP - 1)])

    def test_a_store_that_is_changed_is_looked_at_anew(self):
        store = {"a": 1}
        self.assertEqual(worth(("plus", "a", 1), store), 2)
        store["a"] = 5
        self.assertEqual(worth(("plus", "a", 1), store), 6)
        self.assertEqual(worth_of("a", store), 5)


# Row, the deed it does, the name it sets, the names it reads.
ROWS = (
    (("set", "a", ("plus", "b", "c")), ("plus", "b", "c"), "a", ["b", "c"]),
    (("set", "a", ("plus", "c", "b")), ("plus", "c", "b"), "a", ["c", "b"]),
    (("set", "a", ("plus", "a", 1)), ("plus", "a", 1), "a", ["a"]),
    (("set", "a", ("minus", 1, "a")), ("minus", 1, "a"), "a", ["a"]),
    (("set", "a", ("times", "b", "b")), ("times", "b", "b"), "a", ["b"]),
    (("set", "a", ("times", "a", "a")), ("times", "a", "a"), "a", ["a"]),
    (("set", "a", ("less", 0, 10 ** 12 - 1)), ("less", 0, 10 ** 12 - 1), "a", []),
    (("set", "a", ("same", 3, 3)), ("same", 3, 3), "a", []),
    (("set", "set", ("plus", "plus", "set")), ("plus", "plus", "set"), "set", ["plus", "set"]),
    (("set", "plus", ("plus", "minus", 2)), ("plus", "minus", 2), "plus", ["minus"]),
    (("copy", "a", "b"), None, "a", ["b"]),
    (("copy", "a", "a"), None, "a", ["a"]),
    (("copy", "a", 0), None, "a", []),
    (("copy", "set", "copy"), None, "set", ["copy"]),
    (("copy", "copy", "copy"), None, "copy", ["copy"]),
    (("take", "a"), None, "a", []),
    (("take", "take"), None, "take", []),
    (("take", "plus"), None, "plus", []),
    (("tell", "a"), None, None, ["a"]),
    (("tell", 0), None, None, []),
    (("tell", "set"), None, None, ["set"]),
    (("ask", "a"), None, None, ["a"]),
    (("ask", 5), None, None, []),
    (("ask", "take"), None, None, ["take"]),
    (("skip",), None, None, []),
)

DEEDS = (
    ("plus", "b", "c"), ("plus", "c", "b"), ("plus", "a", 1), ("minus", 1, "a"), ("times", "b", "b"),
    ("times", "a", "a"), ("less", 0, 10 ** 12 - 1), ("same", 3, 3), ("plus", "plus", "set"), ("plus", "minus", 2),
    ("minus", "b", "c"), ("plus", "b", "a"), ("same", "take", "copy"), ("plus", 1, "a"), ("plus", "aa", "ba"),
    ("plus", 0, 0), ("less", "b", "c"),
)


class Rows(unittest.TestCase):
    def test_deed_of(self):
        for row, deed, name, reads in ROWS:
            self.assertEqual(deed_of(row), deed)

    def test_set_by(self):
        for row, deed, name, reads in ROWS:
            self.assertEqual(set_by(row), name)

    def test_reads_of(self):
        for row, deed, name, reads in ROWS:
            with self.subTest(row=row):
                self.assertEqual(reads_of(row), reads)
                self.assertIs(type(reads_of(row)), list)

    def test_does(self):
        for row, own, name, reads in ROWS:
            for deed in DEEDS:
                with self.subTest(row=row, deed=deed):
                    self.assertIs(does(row, deed), own == deed)

    def test_spoils(self):
        for row, own, name, reads in ROWS:
            for deed in DEEDS:
                with self.subTest(row=row, deed=deed):
                    self.assertIs(spoils(row, deed), name is not None and (deed[1] == name or deed[2] == name))

    def test_a_row_may_do_a_deed_and_spoil_it(self):
        for row in (("set", "a", ("plus", "a", 1)), ("set", "a", ("minus", 1, "a")), ("set", "a", ("same", "a", "a"))):
            self.assertIs(does(row, row[2]), True)
            self.assertIs(spoils(row, row[2]), True)

    def test_a_row_may_do_a_deed_and_leave_it(self):
        row = ("set", "a", ("plus", "b", 1))
        self.assertIs(does(row, ("plus", "b", 1)), True)
        self.assertIs(spoils(row, ("plus", "b", 1)), False)

    def test_a_row_may_spoil_a_deed_of_another_row(self):
        for row in (("set", "b", ("plus", "c", 1)), ("copy", "b", 4), ("take", "b")):
            for deed in (("plus", "b", 1), ("plus", 1, "b"), ("times", "b", "b")):
                self.assertIs(spoils(row, deed), True)
                self.assertIs(does(row, deed), False)

    def test_reading_spoils_nothing(self):
        for row in (("copy", "a", "b"), ("tell", "b"), ("ask", "b"), ("set", "a", ("less", "b", "b"))):
            self.assertIs(spoils(row, ("plus", "b", 1)), False)

    def test_a_deed_with_its_operands_turned_is_another_one(self):
        row = ("set", "x", ("plus", "a", "b"))
        self.assertIs(does(row, ("plus", "a", "b")), True)
        self.assertIs(does(row, ("plus", "b", "a")), False)
        self.assertIs(does(row, ("times", "a", "b")), False)

    def test_a_deed_made_apart_is_the_same_deed(self):
        self.assertIs(does(("set", "x", ("plus", "a", 1)), tuple(["plus", "a", 1])), True)

    def test_a_name_like_the_deeds_kind_does_not_spoil_it(self):
        for row in (("take", "plus"), ("copy", "plus", 1), ("set", "plus", ("plus", "a", "b"))):
            self.assertIs(spoils(row, ("plus", "a", "b")), False)
            self.assertIs(spoils(row, ("minus", "plus", "b")), True)

    def test_a_told_list_that_is_changed_changes_no_later_answer(self):
        for row, deed, name, reads in ROWS:
            before = copy.deepcopy(row)
            first = reads_of(row)
            second = reads_of(row)
            first.append("z")
            first.reverse()
            self.assertEqual(second, reads)
            second.clear()
            self.assertEqual(reads_of(row), reads)
            self.assertEqual(row, before)

    def test_who_asks_twice_is_told_the_same(self):
        for row, own, name, reads in ROWS:
            for deed in DEEDS:
                first = (does(row, deed), spoils(row, deed), deed_of(row), set_by(row), reads_of(row))
                second = (does(row, deed), spoils(row, deed), deed_of(row), set_by(row), reads_of(row))
                self.assertEqual(first, second)


if __name__ == "__main__":
    unittest.main()
