import unittest
from itertools import permutations
from random import Random

from besideweb.errors import BadWeb, NotMade
from besideweb.likeness import same, shape_of
from helper import (
    ALL_TIES, BAD_WEBS, NO_TIES, RING_OF_FIVE, RING_OF_FOUR, RING_OF_TEN, ROW, chance_plans, chance_webs, is_plain,
    plan_shape, plan_web, refused_alike, renumbered, rows_in, small_webs, web_with)

LOW_ROW = web_with(10, [(0, 1), (1, 2), (2, 3)])
HIGH_ROW = web_with(10, [(6, 7), (7, 8), (8, 9)])

# Each two of as many points, the first ones of as many ties, too, but not the same.
DIFFERENT = [
    (web_with(4, [(0, 1), (1, 2), (0, 2)]), web_with(4, [(0, 1), (0, 2), (0, 3)])),
    (web_with(5, [(0, 1), (2, 3), (2, 4), (3, 4)]), web_with(5, [(0, 1), (0, 2), (0, 3), (0, 4)])),
    (web_with(6, [(0, 1), (2, 3), (4, 5)]), web_with(6, [(0, 1), (1, 2), (0, 2)])),
    (plan_web(("+", ("*", 0, 1, 2, 3), ("*", 4, ("+", 5, 6, 7, 8, 9)))),
     plan_web(("+", ("*", 4, 5, 6, 7), ("*", 0, 1), ("*", 2, ("+", 3, 8)), 9))),
    (NO_TIES, ALL_TIES),
]


def fits(one, other, found):
    """Whether the list names different points, and ties of the one lie just where the other has them."""
    return sorted(found) == list(range(len(other))) and renumbered(one, found) == other


class Shapes(unittest.TestCase):
    def test_shapes_by_their_texts(self):
        self.assertEqual(shape_of([0]), "o")
        self.assertEqual(shape_of([0, 0]), "(o+o)")
        self.assertEqual(shape_of([2, 1]), "(o*o)")
        self.assertEqual(shape_of(RING_OF_FOUR), "((o+o)*(o+o))")
        self.assertEqual(shape_of([0, 4, 2, 0]), "((o*o)+o+o)")
        self.assertEqual(shape_of(web_with(5, [(4, 1), (1, 3), (2, 0)])), "(((o+o)*o)+(o*o))")
        self.assertEqual(shape_of(NO_TIES), "(o+o+o+o+o+o+o+o+o+o)")
        self.assertEqual(shape_of(ALL_TIES), "(o*o*o*o*o*o*o*o*o*o)")
        self.assertEqual(shape_of(web=[0]), "o")

    def test_the_shape_is_of_the_one_tree_and_not_of_any_that_tells_it(self):
        plan = ("+", ("+", 4, ("*", 0, 1)), ("+", 2, 3))
        self.assertEqual(shape_of(plan_web(plan)), "((o*o)+o+o+o)")
        self.assertNotEqual(plan_shape(plan), "((o*o)+o+o+o)")

    def test_shapes_stay_when_points_are_numbered_otherwise(self):
        for web in small_webs(4):
            if is_plain(web):
                shapes = {shape_of(renumbered(web, order)) for order in permutations(range(len(web)))}
                self.assertEqual(len(shapes), 1, web)

    def test_how_many_shapes_there_are(self):
        counts = [len({shape_of(web) for web in small_webs(5) if len(web) == count and is_plain(web)})
                  for count in range(1, 6)]
        self.assertEqual(counts, [1, 2, 4, 10, 24])


class Same(unittest.TestCase):
    def test_one_point(self):
        self.assertEqual(same([0], [0]), [0])
        self.assertEqual(same(one=[0], other=[0]), [0])

    def test_which_point_of_the_other_stands_for_which_of_the_one(self):
        self.assertEqual(same([2, 5, 2], [6, 1, 1])[1], 0)
        self.assertEqual(same([6, 1, 1], [2, 5, 2])[0], 1)
        steps = plan_web(("+", 0, ("*", 1, ("+", 2, ("*", 3, 4)))))
        moved = renumbered(steps, [2, 4, 3, 1, 0])
        self.assertEqual(same(steps, moved)[:3], [2, 4, 3])

    def test_a_web_and_itself(self):
        for web in (RING_OF_FOUR, NO_TIES, ALL_TIES):
            self.assertTrue(fits(web, web, same(web, web)))

    def test_different_webs_of_as_many_points(self):
        for one, other in DIFFERENT:
            self.assertIsNone(same(one, other))
            self.assertIsNone(same(other, one))

    def test_webs_of_different_sizes(self):
        for one in ([0], [0, 0], [2, 1], RING_OF_FOUR, NO_TIES, ALL_TIES):
            for other in ([0], [0, 0], [2, 1], RING_OF_FOUR, NO_TIES, ALL_TIES):
                if len(one) != len(other):
                    self.assertIsNone(same(one, other))

    def test_every_two_plain_webs_of_up_to_four_points(self):
        webs = [web for web in small_webs(4) if is_plain(web)]
        for one in webs:
            moved = [renumbered(one, order) for order in permutations(range(len(one)))]
            for other in webs:
                found = same(one, other)
                if other in moved:
                    self.assertIsInstance(found, list)
                    self.assertTrue(fits(one, other, found), (one, other, found))
                else:
                    self.assertIsNone(found, (one, other))

    def test_greater_webs_numbered_otherwise(self):
        chance = Random(22)
        for plan in chance_plans(5, 10, 12):
            web = plan_web(plan)
            order = chance.sample(range(len(web)), len(web))
            moved = renumbered(web, order)
            found = same(web, moved)
            self.assertIsInstance(found, list)
            self.assertTrue(fits(web, moved, found), (web, moved, found))
            self.assertEqual(shape_of(web), shape_of(moved))

    def test_greater_webs_against_one_another(self):
        # Where the counts of the points' ties differ there is no list; where one is given, it must fit.
        webs = [plan_web(plan) for plan in chance_plans(6, 8, 25)]
        for one in webs[::3]:
            for other in webs:
                found = same(one, other)
                degrees = [sorted(bin(ties).count("1") for ties in web) for web in (one, other)]
                if degrees[0] != degrees[1]:
                    self.assertIsNone(found)
                if found is not None:
                    self.assertTrue(fits(one, other, found))


class LikenessRefused(unittest.TestCase):
    def test_bad_web(self):
        for web in BAD_WEBS:
            with self.subTest(web=web):
                refused_alike(self, BadWeb, [
                    lambda: shape_of(web), lambda: same(web, [0]), lambda: same([0], web), lambda: same(web, web)])

    def test_both_are_webs_ahead_of_not_made(self):
        for web in BAD_WEBS:
            with self.subTest(web=web):
                refused_alike(self, BadWeb, [lambda: same(web, ROW), lambda: same(ROW, web)])

    def check_four(self, call, web):
        with self.assertRaises(NotMade) as caught:
            call()
        self.assertEqual(caught.exception.__class__, NotMade)
        self.assertIn(caught.exception.four, rows_in(web))

    def test_not_made_of_the_one_first(self):
        self.check_four(lambda: same(LOW_ROW, HIGH_ROW), LOW_ROW)
        self.check_four(lambda: same(HIGH_ROW, LOW_ROW), HIGH_ROW)

    def test_not_made_of_either(self):
        for web in (ROW, RING_OF_FIVE, RING_OF_TEN, LOW_ROW, HIGH_ROW):
            for plain in ([0], RING_OF_FOUR, NO_TIES):
                self.check_four(lambda: same(web, plain), web)
                self.check_four(lambda: same(plain, web), web)
            self.check_four(lambda: same(web, web), web)
            self.check_four(lambda: shape_of(web), web)

    def test_not_made_at_webs_as_chance_has_them(self):
        for web in chance_webs(5, 10, 4):
            if not is_plain(web):
                self.check_four(lambda: shape_of(web), web)


class LikenessOwned(unittest.TestCase):
    def test_what_is_handed_in_stays(self):
        one, other = list(RING_OF_FOUR), renumbered(RING_OF_FOUR, [0, 2, 1, 3])
        kept = list(other)
        same(one, other), shape_of(one)
        self.assertEqual((one, other), (RING_OF_FOUR, kept))

    def test_lists_given_back_are_the_askers(self):
        first = same(RING_OF_FOUR, RING_OF_FOUR)
        kept = list(first)
        first.clear()
        self.assertEqual(same(RING_OF_FOUR, RING_OF_FOUR), kept)

    def test_answers_stay_when_the_webs_change(self):
        one, other = [2, 1, 0], [0, 4, 2]
        found = same(one, other)
        one.clear()
        other.clear()
        self.assertTrue(fits([2, 1, 0], [0, 4, 2], found))

    def test_refusals_fields_are_the_askers(self):
        for ask in (lambda: shape_of(ROW), lambda: same(ROW, ROW), lambda: same([0], ROW)) * 2:
            with self.assertRaises(NotMade) as caught:
                ask()
            self.assertIn(caught.exception.four, ([0, 1, 2, 3], [3, 2, 1, 0]))
            caught.exception.four.clear()


if __name__ == "__main__":
    unittest.main()
