import unittest

from besideweb.errors import BadText, BadTree, BadWeb, NoPoint, NotMade, WebError


class Refusals(unittest.TestCase):
    def test_web_error_stands_straight_under_value_error(self):
        self.assertEqual(WebError.__bases__, (ValueError,))

    def test_each_refusal_stands_straight_under_web_error(self):
        for refusal in (BadWeb, BadTree, NoPoint, NotMade, BadText):
            self.assertEqual(refusal.__bases__, (WebError,), refusal)

    def test_not_made_has_four(self):
        with self.assertRaises(NotMade) as caught:
            raise NotMade([3, 1, 0, 2])
        self.assertEqual(caught.exception.four, [3, 1, 0, 2])
        self.assertIsInstance(caught.exception.four, list)

    def test_not_made_keeps_no_list_that_is_handed_in(self):
        four = [0, 1, 2, 3]
        refusal = NotMade(four)
        four.append(9)
        self.assertEqual(refusal.four, [0, 1, 2, 3])
        self.assertFalse(any(kept is four for kept in refusal.args))
        refusal.four.clear()
        self.assertEqual(four, [0, 1, 2, 3, 9])

    def test_bad_text_has_place(self):
        for place in (0, 7, 100):
            with self.assertRaises(BadText) as caught:
                raise BadText(place)
            self.assertEqual(caught.exception.place, place)

    def test_values_are_taken_by_name_too(self):
        self.assertEqual(NotMade(four=[4, 5, 6, 7]).four, [4, 5, 6, 7])
        self.assertEqual(BadText(place=2).place, 2)


if __name__ == "__main__":
    unittest.main()
