"""[16] The errors."""

import unittest

from cornerfade import errors

WITH_ARGUMENT = (
    (errors.BadValue, "at", (0, 1, 4)),
    (errors.BadText, "at", (0, 17)),
    (errors.BadLevels, "at", (0, 3)),
    (errors.CannotDrop, "point", ((0, 0), (-5, 10 ** 9))),
    (errors.NoStage, "number", (-1, 7, None, True, "x", [1, [2]], (1, 2), 10 ** 30)),
)
CLASSES = tuple(row[0] for row in WITH_ARGUMENT) + (errors.NotLegal,)


class ErrorsTest(unittest.TestCase):
    def test_arguments_by_position_and_by_name(self):
        for kind, name, values in WITH_ARGUMENT:
            for value in values:
                self.assertIs(getattr(kind(value), name), value)
                self.assertIs(getattr(kind(**{name: value}), name), value)

    def test_argument_is_needed(self):
        for kind, name, _ in WITH_ARGUMENT:
            with self.assertRaises(TypeError):
                kind()
            with self.assertRaises(TypeError):
                kind(1, 2)

    def test_not_legal_has_no_argument(self):
        self.assertEqual(vars(errors.NotLegal()), {})

    def test_bases(self):
        self.assertEqual(errors.MapError.__bases__, (Exception,))
        for kind in CLASSES:
            self.assertEqual(kind.__bases__, (errors.MapError,))

    def test_caught_by_the_base_and_by_no_other(self):
        for kind in CLASSES:
            error = kind() if kind is errors.NotLegal else kind(0)
            with self.assertRaises(errors.MapError) as caught:
                raise error
            self.assertIs(caught.exception, error)
            self.assertEqual([other for other in CLASSES if isinstance(error, other)], [kind])
            self.assertNotIsInstance(error, (ValueError, LookupError, ArithmeticError))

    def test_errors_do_not_change_one_another(self):
        one, other = errors.NoStage(1), errors.NoStage(2)
        self.assertEqual((one.number, other.number), (1, 2))


if __name__ == "__main__":
    unittest.main()
