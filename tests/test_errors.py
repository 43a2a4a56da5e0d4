import unittest

from putback import errors

PLAIN = ["NoKind", "NoName", "Twice", "NoDeed"]
WITH_WAY = ["NoView", "CantPut", "NoFit"]
REFUSALS = PLAIN + WITH_WAY + ["NoPaper", "NoText"]


class ErrorsTest(unittest.TestCase):
    def test_any_refusal_is_a_value_error(self):
        self.assertEqual(errors.ViewError.__bases__, (ValueError,))

    def test_each_refusal_stands_straight_beneath_view_error(self):
        for name in REFUSALS:
            self.assertEqual(getattr(errors, name).__bases__, (errors.ViewError,), name)

    def test_no_refusal_stands_beneath_another(self):
        for one in REFUSALS:
            for other in REFUSALS:
                if one != other:
                    self.assertFalse(issubclass(getattr(errors, one), getattr(errors, other)), (one, other))

    def test_the_plain_refusals_are_raised_and_taken(self):
        for name in PLAIN:
            with self.assertRaises(errors.ViewError) as caught:
                raise getattr(errors, name)("words")
            self.assertEqual(caught.exception.__class__.__name__, name)

    def test_way_is_a_list(self):
        for name in WITH_WAY:
            for way in ([], ["a"], ["rows", 0, "knot", "a"]):
                error = getattr(errors, name)(way)
                self.assertIsInstance(error.way, list)
                self.assertEqual(error.way, way)

    def test_a_way_is_its_own(self):
        for name in WITH_WAY:
            way = ["a"]
            error = getattr(errors, name)(way)
            way.append("b")
            self.assertEqual(error.way, ["a"])
            error.way.append("c")
            self.assertEqual(way, ["a", "b"])

    def test_at_and_place_are_whole_numbers(self):
        for number in (0, 7):
            self.assertEqual(errors.NoPaper(number).at, number)
            self.assertEqual(errors.NoText(number).place, number)

    def test_the_fields_are_there_where_it_is_taken(self):
        with self.assertRaises(ValueError) as caught:
            raise errors.CantPut([1, "a"])
        self.assertEqual(caught.exception.way, [1, "a"])


if __name__ == "__main__":
    unittest.main()
