import unittest

from backslope.errors import Hole, NoRow, NoText, Nought, SlopeError, TooGreat

REFUSALS = (NoText, Nought, TooGreat, Hole, NoRow)


def made(refusal):
    return refusal(3) if refusal in (Hole, NoRow) else refusal("words")


class Errors(unittest.TestCase):
    def test_the_common_one_is_a_value_error(self):
        self.assertEqual(SlopeError.__bases__, (ValueError,))
        self.assertIsInstance(SlopeError("words"), ValueError)

    def test_each_stands_straight_under_the_common_one(self):
        for refusal in REFUSALS:
            self.assertEqual(refusal.__bases__, (SlopeError,))
            self.assertIsInstance(made(refusal), SlopeError)
            self.assertIsInstance(made(refusal), ValueError)

    def test_none_is_another_one(self):
        for refusal in REFUSALS:
            for other in REFUSALS:
                self.assertEqual(isinstance(made(refusal), other), refusal is other)

    def test_each_can_be_raised_and_taken_by_its_own_name_and_by_the_common_one(self):
        for refusal in REFUSALS:
            for taken in (refusal, SlopeError, ValueError):
                with self.assertRaises(taken):
                    raise made(refusal)

    def test_values(self):
        self.assertEqual(Hole(3).many, 3)
        self.assertEqual(Hole(many=1).many, 1)
        self.assertEqual(NoRow(2).line, 2)
        self.assertEqual(NoRow(line=0).line, 0)

    def test_the_values_belong_to_each_object(self):
        holes = [Hole(1), Hole(2)]
        rows = [NoRow(0), NoRow(39)]
        self.assertEqual([hole.many for hole in holes], [1, 2])
        self.assertEqual([row.line for row in rows], [0, 39])

    def test_the_others_are_made_with_a_text(self):
        for refusal in (SlopeError, NoText, Nought, TooGreat):
            self.assertEqual(str(refusal("words")), "words")


if __name__ == "__main__":
    unittest.main()
