import unittest

from tagmend.errors import Ended, NoBook, NoFit, NoPlace, NoSpot, NoText, NotEnded, TagError

REFUSALS = (NoText, NoBook, NoPlace, NoSpot, Ended, NotEnded, NoFit)


class ErrorClasses(unittest.TestCase):
    def test_any_refusal_is_a_value_error(self):
        self.assertEqual(TagError.__bases__, (ValueError,))

    def test_each_refusal_stands_under_tag_error_alone(self):
        for refusal in REFUSALS:
            self.assertEqual(refusal.__bases__, (TagError,), refusal)

    def test_rows_are_kept(self):
        self.assertEqual(NoText(0).row, 0)
        self.assertEqual(NoBook(11).row, 11)

    def test_rule_and_place_are_kept(self):
        error = NoFit("deep", (0, 1))
        self.assertEqual((error.rule, error.place), ("deep", (0, 1)))


if __name__ == "__main__":
    unittest.main()
