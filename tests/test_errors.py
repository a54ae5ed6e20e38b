"""[0.8] The errors."""

import unittest

from feltstone import errors

LISTED = {
    "BadRatio": ["what"], "BadPlace": [], "BadDirection": [], "BadAmount": [], "BadSize": [], "BadPatch": ["what"],
    "BadTable": ["what"], "BadText": ["row", "what"], "BadFact": ["what"], "BadCase": ["index", "what"],
    "NoFact": ["number"], "NoStones": [], "BadChoice": ["index"], "NotFit": ["fact"], "BadLots": ["what"],
    "NotMet": [], "BadClaim": ["what"], "NoArea": ["number"], "BadCorner": ["number"], "BadKept": ["what"],
    "TooMany": ["most"], "BadLine": [], "BadReading": ["index", "what"], "BadBreadth": [], "BadBox": ["what"],
    "BadDirections": ["index"], "BadStone": [], "BadMost": [], "BadChange": ["index", "what"], "BadWish": ["index"],
    "NoNumber": ["number"], "BookFull": [],
}


class Errors(unittest.TestCase):
    def test_the_base_is_directly_under_value_error(self):
        self.assertEqual(errors.FeltError.__bases__, (ValueError,))
        self.assertEqual(errors.FeltError.__module__, "feltstone.errors")

    def test_each_class_is_directly_under_the_base(self):
        self.assertEqual(len(LISTED), 32)
        for name in LISTED:
            with self.subTest(name=name):
                kind = getattr(errors, name)
                self.assertEqual(kind.__bases__, (errors.FeltError,))
                self.assertEqual((kind.__module__, kind.__name__), ("feltstone.errors", name))

    def test_arguments_are_kept_under_their_names(self):
        for name, listed in LISTED.items():
            with self.subTest(name=name):
                kind = getattr(errors, name)
                given = [object() for _ in listed]
                for error in (kind(*given), kind(**dict(zip(listed, given)))):
                    self.assertEqual(vars(error), dict(zip(listed, given)))

    def test_a_wrong_number_of_arguments_is_refused(self):
        for name, listed in LISTED.items():
            if listed:
                with self.subTest(name=name), self.assertRaises(TypeError):
                    getattr(errors, name)(*listed, 1)

    def test_each_can_be_raised_and_caught_as_the_base(self):
        for name, listed in LISTED.items():
            with self.subTest(name=name):
                with self.assertRaises(errors.FeltError) as caught:
                    raise getattr(errors, name)(*listed)
                self.assertIsInstance(caught.exception, ValueError)
                self.assertEqual(list(vars(caught.exception).values()), listed)


if __name__ == "__main__":
    unittest.main()
