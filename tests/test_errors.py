"""Point 4: the classes of the refusals."""

import unittest

from oncedone.errors import NoText, NoThing, NoWay, OnceError, TooMany, Wrong

REFUSALS = (Wrong, NoThing, TooMany, NoWay, NoText)
FIELDS = ((Wrong, "at"), (NoThing, "at"), (NoWay, "at"), (TooMany, "most"))
NUMBERS = (0, 1, 7, 400, 10 ** 12 - 1, 10 ** 12)


def one_of_each(number):
    return [Wrong(number), NoThing(number), TooMany(number), NoWay(number), NoText()]


class Refusals(unittest.TestCase):
    def test_base_is_a_value_error(self):
        self.assertTrue(issubclass(OnceError, ValueError))
        with self.assertRaises(ValueError):
            raise OnceError()

    def test_each_is_caught_as_once_error_and_as_value_error(self):
        for number in NUMBERS:
            for error in one_of_each(number):
                for base in (OnceError, ValueError, type(error)):
                    with self.subTest(error=repr(error), base=base.__name__):
                        with self.assertRaises(base) as caught:
                            raise error
                        self.assertEqual(caught.exception, error)

    def test_none_is_another_one(self):
        for error in one_of_each(3):
            kinds = [kind for kind in REFUSALS if isinstance(error, kind)]
            self.assertEqual(kinds, [type(error)])

    def test_once_error_is_none_of_them(self):
        for kind in REFUSALS:
            self.assertNotIsInstance(OnceError(), kind)

    def test_number_is_kept(self):
        for kind, field in FIELDS:
            for number in NUMBERS:
                with self.subTest(kind=kind.__name__, number=number):
                    self.assertEqual(getattr(kind(number), field), number)
                    self.assertIs(type(getattr(kind(number), field)), int)

    def test_number_is_there_when_caught(self):
        for kind, field in FIELDS:
            try:
                raise kind(12)
            except OnceError as error:
                self.assertEqual(getattr(error, field), 12)

    def test_two_of_a_kind_keep_their_own_numbers(self):
        for kind, field in FIELDS:
            first = kind(0)
            second = kind(10 ** 12)
            self.assertEqual((getattr(first, field), getattr(second, field)), (0, 10 ** 12))

    def test_a_number_is_needed_but_for_no_text(self):
        for kind, field in FIELDS:
            with self.assertRaises(TypeError):
                kind()
        self.assertIsInstance(NoText(), NoText)


if __name__ == "__main__":
    unittest.main()
