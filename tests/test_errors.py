"""The refusals: which class stands under which, and their fields."""

import unittest

from yardkeep import errors

UNDER = ["BadName", "BadEnd", "TooMany", "BadWay", "Held", "Seen", "Stiff", "NoTrain", "NoTurn", "OneFault", "BadText"]


class Classes(unittest.TestCase):
    def test_a_yard_error_is_a_value_error(self):
        self.assertTrue(issubclass(errors.YardError, ValueError))
        with self.assertRaises(ValueError):
            raise errors.YardError("words")

    def test_the_eleven_stand_under_yard_error(self):
        self.assertEqual(len(UNDER), 11)
        for word in UNDER:
            with self.subTest(word=word):
                self.assertTrue(issubclass(getattr(errors, word), errors.YardError))
                self.assertIsNot(getattr(errors, word), errors.YardError)

    def test_none_stands_under_another_one(self):
        for one in UNDER:
            for other in UNDER:
                if one != other:
                    with self.subTest(one=one, other=other):
                        self.assertFalse(issubclass(getattr(errors, one), getattr(errors, other)))

    def test_those_without_a_field_are_made_with_words_or_without(self):
        for word in UNDER:
            if word not in ("Held", "Seen", "Stiff", "BadText"):
                with self.subTest(word=word):
                    self.assertIsInstance(getattr(errors, word)(), errors.YardError)
                    self.assertIsInstance(getattr(errors, word)("words"), errors.YardError)


class Fields(unittest.TestCase):
    def test_part(self):
        for word in ("Held", "Seen", "Stiff"):
            with self.subTest(word=word):
                with self.assertRaises(errors.YardError) as caught:
                    raise getattr(errors, word)("p1")
                self.assertIs(type(caught.exception), getattr(errors, word))
                self.assertEqual(caught.exception.part, "p1")

    def test_row(self):
        for row in (0, 1, 17):
            with self.subTest(row=row):
                with self.assertRaises(errors.YardError) as caught:
                    raise errors.BadText(row)
                self.assertIs(type(caught.exception), errors.BadText)
                self.assertEqual(caught.exception.row, row)

    def test_two_of_one_class_keep_their_own(self):
        one = errors.Held("p1")
        errors.Held("p2")
        self.assertEqual(one.part, "p1")
