import unittest

from ringrestart import errors

WITH_STRING = [
    "NoRing", "NoServer", "NoRound", "NoDrops", "NoAssignment", "NoObservation", "NoWeights", "NoOrder",
    "NoNumber", "NoBatch", "Nothing",
]
WITH_FIELD = ["Impossible", "NoText"]


class TestErrors(unittest.TestCase):

    def test_base(self):
        self.assertTrue(issubclass(errors.RingError, ValueError))
        self.assertEqual("ringrestart.errors", errors.RingError.__module__)

    def test_all_are_ring_errors_of_their_own(self):
        names = WITH_STRING + WITH_FIELD
        classes = [getattr(errors, name) for name in names]
        for name, each in zip(names, classes):
            self.assertEqual(name, each.__name__)
            self.assertEqual("ringrestart.errors", each.__module__)
            self.assertTrue(issubclass(each, errors.RingError))
            self.assertTrue(issubclass(each, ValueError))
            self.assertIsNot(each, errors.RingError)
            for other in classes:
                self.assertEqual(other is each, issubclass(each, other))

    def test_made_with_one_string(self):
        for name in WITH_STRING:
            for text in ("", "a wrong thing"):
                each = getattr(errors, name)
                with self.assertRaises(errors.RingError) as caught:
                    raise each(text)
                self.assertIs(each, type(caught.exception))

    def test_keep_their_argument(self):
        for value in (("passed", 0, 3), ("all",), ("rounds", [(4, None)])):
            self.assertEqual(value, errors.Impossible(value).reason)
            self.assertEqual(value, errors.Impossible(reason=value).reason)
            with self.assertRaises(errors.RingError) as caught:
                raise errors.Impossible(value)
            self.assertIs(errors.Impossible, type(caught.exception))
            self.assertEqual(value, caught.exception.reason)
        for value in (0, 2, 4000):
            self.assertEqual(value, errors.NoText(value).at)
            self.assertEqual(value, errors.NoText(at=value).at)
            with self.assertRaises(errors.RingError) as caught:
                raise errors.NoText(value)
            self.assertIs(errors.NoText, type(caught.exception))
            self.assertEqual(value, caught.exception.at)


if __name__ == "__main__":
    unittest.main()
