"""The error classes of the interface."""

import unittest

from voucherstack.errors import BadText, LineError, NoName, NoPieces, NotLet, TillError, TooMany, Twice

REFUSALS = [TillError, NotLet, NoPieces, LineError, BadText, NoName, Twice, TooMany]
OF_A_LINE = [BadText, NoName, Twice, TooMany]


def above(refusal):
    """The refusals under which the interface puts this one, itself among them."""
    if refusal in OF_A_LINE:
        return [refusal, LineError, TillError]
    if refusal == TillError:
        return [TillError]
    return [refusal, TillError]


class ErrorClasses(unittest.TestCase):
    def test_base_of_each(self):
        self.assertEqual(TillError.__bases__, (ValueError,))
        for refusal in (NotLet, NoPieces, LineError):
            self.assertEqual(refusal.__bases__, (TillError,), refusal)
        for refusal in OF_A_LINE:
            self.assertEqual(refusal.__bases__, (LineError,), refusal)

    def test_none_under_another_but_as_told(self):
        for one in REFUSALS:
            for other in REFUSALS:
                self.assertEqual(issubclass(one, other), other in above(one), (one, other))

    def test_names(self):
        names = ["TillError", "NotLet", "NoPieces", "LineError", "BadText", "NoName", "Twice", "TooMany"]
        self.assertEqual([refusal.__name__ for refusal in REFUSALS], names)


class ErrorFields(unittest.TestCase):
    def test_not_let(self):
        with self.assertRaises(TillError) as caught:
            raise NotLet(3, "held")
        self.assertEqual(caught.exception.place, 3)
        self.assertEqual(caught.exception.word, "held")

    def test_not_let_at_place_0(self):
        error = NotLet(0, "only")
        self.assertEqual((error.place, error.word), (0, "only"))

    def test_line_errors(self):
        for refusal in [LineError] + OF_A_LINE:
            with self.assertRaises(LineError) as caught:
                raise refusal(7)
            self.assertEqual(caught.exception.line, 7, refusal)

    def test_two_errors_keep_their_own_fields(self):
        one, other = BadText(1), BadText(2)
        self.assertEqual((one.line, other.line), (1, 2))

    def test_taken_as_value_error(self):
        for error in (TillError(), NoPieces(), NotLet(1, "once"), TooMany(4)):
            with self.assertRaises(ValueError):
                raise error


if __name__ == "__main__":
    unittest.main()
