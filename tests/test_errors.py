import unittest

from weighwalk import errors

NAMES = ("NoKind", "WrongKind", "NoWeight", "NoWord", "Unlike", "NoClosure", "TooGreat", "NoText", "NoName", "NoRow")


class Refusals(unittest.TestCase):
    def classes(self):
        return [getattr(errors, name) for name in NAMES]

    def test_base_stands_under_value_error(self):
        self.assertTrue(issubclass(errors.WeighError, ValueError))

    def test_each_stands_under_the_base(self):
        for refusal in self.classes():
            self.assertTrue(issubclass(refusal, errors.WeighError), refusal)
            self.assertIsNot(refusal, errors.WeighError)

    def test_none_stands_under_another(self):
        for one in self.classes():
            for other in self.classes():
                self.assertEqual(issubclass(one, other), one.__name__ == other.__name__, (one, other))

    def test_each_is_raised_and_taken_by_its_name(self):
        for refusal in self.classes():
            with self.assertRaises(refusal):
                raise refusal("why")
            self.assertEqual(str(refusal("why")), "why")
