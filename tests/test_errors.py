"""The classes of packwants.errors."""

import unittest

from packwants import errors

REFUSALS = ("NoOffer", "NoText", "NoLine", "NoPlace", "NoThings")
WITH_TEXT = ("NoLine", "NoPlace", "NoThings")


class ErrorsTest(unittest.TestCase):
    def test_any_refusal_is_a_value_error(self):
        self.assertEqual(errors.PackError.__bases__, (ValueError,))
        self.assertIsInstance(errors.PackError("why"), ValueError)

    def test_each_is_straight_under_pack_error(self):
        for name in REFUSALS:
            with self.subTest(name):
                self.assertEqual(getattr(errors, name).__bases__, (errors.PackError,))

    def test_none_is_under_another(self):
        for name in REFUSALS:
            for other in REFUSALS:
                if name != other:
                    with self.subTest(name, other=other):
                        self.assertFalse(issubclass(getattr(errors, name), getattr(errors, other)))

    def test_all_are_defined_there(self):
        for name in ("PackError",) + REFUSALS:
            with self.subTest(name):
                self.assertEqual(getattr(errors, name).__module__, "packwants.errors")

    def test_no_offer_has_its_place_from_the_start(self):
        for place in (0, 3, 8):
            error = errors.NoOffer(place)
            self.assertEqual(error.place, place)
            self.assertEqual(vars(error), {"place": place})

    def test_no_text_has_its_row_from_the_start(self):
        for row in (0, 5, 7):
            error = errors.NoText(row)
            self.assertEqual(error.row, row)
            self.assertEqual(vars(error), {"row": row})

    def test_objects_keep_their_own_values(self):
        first = errors.NoOffer(1)
        errors.NoOffer(2)
        self.assertEqual(first.place, 1)

    def test_the_others_are_made_with_a_text(self):
        for name in WITH_TEXT:
            with self.subTest(name):
                self.assertEqual(str(getattr(errors, name)("some text")), "some text")

    def test_each_is_caught_as_a_refusal(self):
        for name in REFUSALS:
            made = getattr(errors, name)("some text" if name in WITH_TEXT else 4)
            with self.subTest(name), self.assertRaises(errors.PackError) as caught:
                raise made
            self.assertIs(caught.exception, made)


if __name__ == "__main__":
    unittest.main()
