import unittest
from itertools import product

from besideweb.errors import BadWeb, NotMade
from besideweb.tellings import Answer, Made, Row, telling, tree_of, twins
from besideweb.trees import Across, Beside, Point, Tree
from helper import (
    ALL_TIES, BAD_WEBS, NO_TIES, RING_OF_FIVE, RING_OF_FOUR, RING_OF_TEN, ROW, chance_plans, chance_webs, every_plan,
    is_plain, pairs_of, plan_of, plan_pairs, plan_points, plan_told, plan_web, refused_alike, rows_in, small_webs,
    tree_from, web_with)

ONE_ROW_BESIDE = web_with(10, [(9, 3), (3, 7), (7, 1)])
ONE_ROW_ACROSS = web_with(10, [(one, other) for one in (0, 2, 4, 5, 6, 8) for other in range(10) if one != other]
                          + [(9, 3), (3, 7), (7, 1)])

TOLD = [
    ([0], "0"),
    ([0, 0], "(0+1)"),
    ([2, 1], "(0*1)"),
    ([2, 5, 2], "((0+2)*1)"),
    ([4, 0, 1], "((0*2)+1)"),
    ([0, 4, 2, 0], "(0+(1*2)+3)"),
    (RING_OF_FOUR, "((0+2)*(1+3))"),
    (web_with(5, [(4, 1), (1, 3), (2, 0)]), "((0*2)+(1*(3+4)))"),
    (NO_TIES, "(0+1+2+3+4+5+6+7+8+9)"),
    (ALL_TIES, "(0*1*2*3*4*5*6*7*8*9)"),
    (web_with(10, [(9, other) for other in range(9)]), "((0+1+2+3+4+5+6+7+8)*9)"),
    (plan_web(("*", 0, ("+", 1, ("*", 2, ("+", 3, ("*", 4, ("+", 5, ("*", 6, ("+", 7, ("*", 8, 9)))))))))),
     "(0*(1+(2*(3+(4*(5+(6*(7+(8*9)))))))))"),
]


def is_in_order(plan):
    """Whether no doing stands straight in the same one, and trees stand by their least points."""
    if not isinstance(plan, tuple):
        return True
    least = [min(plan_points(inner)) for inner in plan[1:]]
    signs = [inner[0] for inner in plan[1:] if isinstance(inner, tuple)]
    return least == sorted(least) and plan[0] not in signs and all(is_in_order(inner) for inner in plan[1:])


class Kinds(unittest.TestCase):
    def test_what_stands_under_what(self):
        self.assertEqual(Made.__bases__, (Answer,))
        self.assertEqual(Row.__bases__, (Answer,))
        self.assertTrue(callable(Answer.holds))

    def test_answer_itself_tells_nothing_that_is_so(self):
        self.assertIs(Answer().holds([0]), False)
        self.assertIs(Answer().holds(ROW), False)

    def test_fields(self):
        tree = Beside([Point(1), Point(0)])
        self.assertIs(Made(tree).tree, tree)
        for four in ([], [0], [3, 1, 0, 2], [0, 0, 0, 0], [0, 1, 2, 3, 4]):
            self.assertIsInstance(Row(four).four, list)
            self.assertEqual(Row(four).four, four)

    def test_arguments_by_name(self):
        self.assertTrue(Made(tree=Point(0)).holds(web=[0]))
        self.assertTrue(Row(four=[0, 1, 2, 3]).holds(web=ROW))
        self.assertIsInstance(telling(web=ROW), Row)
        self.assertEqual(tree_of(web=[0]).told(), "0")
        self.assertEqual(twins(web=[0]), [])


class Telling(unittest.TestCase):
    def check_answer(self, web):
        """Hold the answers of telling and tree_of against a look at all fours."""
        rows = rows_in(web)
        answer = telling(web)
        if rows:
            self.assertEqual(answer.__class__, Row, web)
            self.assertIn(answer.four, rows, web)
            with self.assertRaises(NotMade) as caught:
                tree_of(web)
            self.assertIn(caught.exception.four, rows, web)
        else:
            self.assertEqual(answer.__class__, Made, web)
            plan = plan_of(answer.tree)
            self.assertEqual(plan_web(plan), web)
            self.assertTrue(is_in_order(plan), (web, plan))
            self.assertEqual(answer.tree.told(), plan_told(plan))
            self.assertEqual(tree_of(web).told(), plan_told(plan))
            self.assertIsInstance(tree_of(web), Tree)
        self.assertIs(answer.holds(web), True)

    def test_trees_by_their_texts(self):
        for web, text in TOLD:
            with self.subTest(text=text):
                self.assertEqual(telling(web).tree.told(), text)
                self.assertEqual(tree_of(web).told(), text)
                self.check_answer(web)

    def test_webs_that_are_not_plain(self):
        for web in (ROW, RING_OF_FIVE, RING_OF_TEN, ONE_ROW_BESIDE, ONE_ROW_ACROSS):
            self.assertFalse(is_plain(web))
            self.check_answer(web)

    def test_the_one_row_among_ten_points(self):
        for web in (ONE_ROW_BESIDE, ONE_ROW_ACROSS):
            self.assertIn(telling(web).four, ([9, 3, 7, 1], [1, 7, 3, 9]))
            with self.assertRaises(NotMade) as caught:
                tree_of(web)
            self.assertIn(caught.exception.four, ([9, 3, 7, 1], [1, 7, 3, 9]))

    def test_every_web_of_up_to_five_points(self):
        for web in small_webs(5):
            self.check_answer(web)

    def test_how_many_small_webs_are_plain(self):
        made = [len(web) for web in small_webs(5) if isinstance(telling(web), Made)]
        self.assertEqual([made.count(count) for count in range(1, 6)], [1, 2, 8, 52, 472])

    def test_greater_webs(self):
        for web in [plan_web(plan) for plan in chance_plans(6, 10, 12)] + chance_webs(6, 10, 6):
            self.check_answer(web)

    def test_every_tree_of_a_web_leads_to_the_one(self):
        for plan in every_plan((0, 1, 2)):
            found = plan_of(tree_of(plan_web(plan)))
            self.assertTrue(is_in_order(found))
            self.assertEqual(plan_web(found), plan_web(plan))
            if is_in_order(plan):
                self.assertEqual(found, plan)


class MadeHolds(unittest.TestCase):
    def held(self, plan, web):
        answer = Made(tree_from(plan)).holds(web)
        self.assertIsInstance(answer, bool)
        return answer

    def test_any_tree_that_tells_it(self):
        self.assertTrue(self.held(0, [0]))
        self.assertTrue(self.held(("+", 0, ("*", 1, 2), 3), [0, 4, 2, 0]))
        self.assertTrue(self.held(("+", 3, ("*", 2, 1), 0), [0, 4, 2, 0]))
        self.assertTrue(self.held(("+", 0, ("+", ("*", 1, 2), 3)), [0, 4, 2, 0]))
        self.assertTrue(self.held(("*", ("*", 9, 8, 7), ("*", 6, ("*", 5, 4)), 3, 2, 1, 0), ALL_TIES))

    def test_a_tree_of_another_web(self):
        self.assertFalse(self.held(("+", 0, 1), [2, 1]))
        self.assertFalse(self.held(("*", 0, 1), [0, 0]))
        self.assertFalse(self.held(("+", 0, ("*", 1, 3), 2), [0, 4, 2, 0]))
        self.assertFalse(self.held(("*", 0, ("+", 1, 2), 3), [0, 4, 2, 0]))

    def test_fewer_or_more_points(self):
        self.assertFalse(self.held(0, [0, 0]))
        self.assertFalse(self.held(("+", 0, 1), [0]))
        self.assertFalse(self.held(("+", 0, 1, 2), [0, 0]))
        self.assertFalse(self.held(("+", 0, 1), [0, 0, 0]))
        self.assertFalse(self.held(("+",) + tuple(range(9)), NO_TIES))

    def test_points_that_are_not_0_to_one_below_their_count(self):
        self.assertFalse(self.held(1, [0]))
        self.assertFalse(self.held(1, [0, 0]))
        self.assertFalse(self.held(("+", 0, 2), [0, 0]))
        self.assertFalse(self.held(("+", 0, 2), [0, 0, 0]))
        self.assertFalse(self.held(("*", 8, 9), [2, 1]))

    def test_no_tree_tells_a_web_with_a_row(self):
        for plan in (("*", ("+", 0, 3), ("+", 1, 2)), ("+", ("*", 0, 1), ("*", 2, 3)), ("+", 0, ("*", 1, 2), 3)):
            self.assertFalse(self.held(plan, ROW))
        self.assertFalse(self.held(0, RING_OF_TEN))

    def test_every_tree_of_up_to_three_points_at_every_web_of_up_to_four(self):
        plans = [plan for count in range(1, 4) for plan in every_plan(tuple(range(count)))]
        for plan in plans:
            told = (len(plan_points(plan)), sorted(tuple(sorted(pair)) for pair in plan_pairs(plan)))
            made = Made(tree_from(plan))
            for web in small_webs(4):
                self.assertIs(made.holds(web), told == (len(web), pairs_of(web)), (plan, web))


class RowHolds(unittest.TestCase):
    def test_rows_told_both_ways(self):
        self.assertIs(Row([0, 1, 2, 3]).holds(ROW), True)
        self.assertIs(Row([3, 2, 1, 0]).holds(ROW), True)
        self.assertIs(Row([7, 8, 9, 0]).holds(RING_OF_TEN), True)
        self.assertIs(Row([9, 3, 7, 1]).holds(ONE_ROW_BESIDE), True)
        self.assertIs(Row([1, 7, 3, 9]).holds(ONE_ROW_ACROSS), True)

    def test_other_orders_of_a_row(self):
        for four in ([1, 0, 2, 3], [0, 2, 1, 3], [1, 3, 0, 2], [2, 1, 0, 3]):
            self.assertIs(Row(four).holds(ROW), False)

    def test_other_counts(self):
        way = web_with(6, [(0, 1), (1, 2), (2, 3), (3, 4), (4, 5)])
        for points in ([], [0], [0, 1], [0, 1, 2], [0, 1, 2, 3, 4], [0, 1, 2, 3, 4, 5]):
            self.assertIs(Row(points).holds(way), False)
        self.assertIs(Row([1, 2, 3, 4]).holds(way), True)

    def test_a_point_twice(self):
        for four in ([0, 1, 2, 2], [0, 1, 0, 1], [0, 0, 1, 2], [1, 2, 3, 1], [0, 1, 2, 0], [1, 1, 1, 1]):
            self.assertIs(Row(four).holds(ROW), False)
        self.assertIs(Row([0, 1, 2, 3, 3]).holds(ROW), False)
        self.assertIs(Row([0, 0, 0, 0]).holds([0]), False)
        self.assertIs(Row([0, 1, 0, 1]).holds([2, 1]), False)

    def test_points_that_the_web_has_not(self):
        self.assertIs(Row([0, 1, 2, 3]).holds([2, 5, 2]), False)
        self.assertIs(Row([-4, -3, -2, -1]).holds(ROW), False)

    def test_plain_webs_have_none(self):
        for web in (NO_TIES, ALL_TIES, RING_OF_FOUR):
            for four in product(range(4), repeat=4):
                self.assertIs(Row(list(four)).holds(web), False)

    def test_every_list_of_four_at_every_web_of_four(self):
        for web in small_webs(4):
            rows = rows_in(web)
            for four in product(range(len(web)), repeat=4):
                self.assertIs(Row(list(four)).holds(web), list(four) in rows, (web, four))


class Twins(unittest.TestCase):
    def are_twins(self, web, left, pair):
        had = pairs_of(web)
        others = [point for point in left if point not in pair]
        tied = [[point for point in others if tuple(sorted((one, point))) in had] for one in pair]
        return tied[0] == tied[1]

    def check_twins(self, web):
        found = twins(web)
        self.assertIsInstance(found, list)
        left = list(range(len(web)))
        for pair in found:
            self.assertIsInstance(pair, tuple)
            goes, stays = pair
            self.assertTrue(goes in left and stays in left and goes != stays, (web, found))
            self.assertTrue(self.are_twins(web, left, pair), (web, found))
            left.remove(goes)
        pairs = [(one, other) for one in left for other in left if one < other]
        self.assertFalse(any(self.are_twins(web, left, pair) for pair in pairs), (web, found))
        self.assertEqual(len(left) == 1, is_plain(web), (web, found))

    def test_one_point(self):
        self.assertEqual(twins([0]), [])

    def test_two_points(self):
        for web in ([0, 0], [2, 1]):
            self.assertIn(twins(web), ([(1, 0)], [(0, 1)]))

    def test_a_row_has_none(self):
        self.assertEqual(twins(ROW), [])
        self.assertEqual(twins(RING_OF_FIVE), [])
        self.assertEqual(twins(RING_OF_TEN), [])

    def test_as_far_as_there_are_twins(self):
        for web in (ONE_ROW_BESIDE, ONE_ROW_ACROSS):
            self.check_twins(web)
            self.assertEqual(len(twins(web)), 5)
        self.check_twins(web_with(5, [(0, 1), (1, 2), (2, 3), (4, 1), (4, 0)]))

    def test_webs_without_ties_and_with_all(self):
        for web in (NO_TIES, ALL_TIES):
            self.check_twins(web)
            self.assertEqual(len(twins(web)), 9)

    def test_every_web_of_up_to_five_points(self):
        for web in small_webs(5):
            self.check_twins(web)

    def test_greater_webs(self):
        for web in [plan_web(plan) for plan in chance_plans(6, 10, 8)] + chance_webs(6, 10, 6):
            self.check_twins(web)


class TellingsRefused(unittest.TestCase):
    def test_bad_web_for_all(self):
        for web in BAD_WEBS:
            with self.subTest(web=web):
                refused_alike(self, BadWeb, [lambda: telling(web), lambda: tree_of(web), lambda: twins(web)])

    def test_answers_asked_of_no_web(self):
        for web in BAD_WEBS:
            with self.subTest(web=web):
                refused_alike(self, BadWeb, [
                    lambda: Answer().holds(web), lambda: Made(Point(0)).holds(web), lambda: Row([]).holds(web),
                    lambda: Row([0, 1, 2, 3]).holds(web)])

    def test_not_made_alone_for_a_web_with_a_row(self):
        refused_alike(self, NotMade, [lambda: tree_of(ROW), lambda: tree_of(RING_OF_TEN)])


class TellingsOwned(unittest.TestCase):
    def test_what_is_handed_in_stays(self):
        for web in (ROW, RING_OF_FOUR, ONE_ROW_ACROSS):
            given = list(web)
            telling(given), twins(given), telling(given).holds(given)
            try:
                tree_of(given)
            except NotMade:
                pass
            self.assertEqual(given, web)

    def test_the_list_of_a_row_is_not_kept(self):
        four = [0, 1, 2, 3]
        row = Row(four)
        row.holds(ROW)
        self.assertEqual(four, [0, 1, 2, 3])
        four.reverse()
        four.append(9)
        self.assertEqual(row.four, [0, 1, 2, 3])
        self.assertTrue(row.holds(ROW))
        row.four.clear()
        self.assertEqual(four, [3, 2, 1, 0, 9])

    def test_a_tree_stands_where_it_is_put(self):
        tree = Across([Point(1), Point(0)])
        one, other = Made(tree), Made(tree)
        self.assertTrue(one.tree is tree and other.tree is tree)
        self.assertTrue(one.holds([2, 1]))
        self.assertEqual(tree.told(), "(1*0)")

    def test_fields_are_the_askers(self):
        first, kept = telling(ROW), telling(ROW)
        wanted = list(kept.four)
        first.four.clear()
        self.assertEqual((kept.four, telling(ROW).four), (wanted, wanted))
        self.assertTrue(kept.holds(ROW))
        made, other = telling(RING_OF_FOUR), telling(RING_OF_FOUR)
        made.tree.trees.clear()
        made.tree.points().clear()
        self.assertEqual(other.tree.told(), "((0+2)*(1+3))")
        self.assertEqual(len(other.tree.trees), 2)
        self.assertEqual(telling(RING_OF_FOUR).tree.told(), "((0+2)*(1+3))")

    def test_refusals_fields_are_the_askers(self):
        for time in range(2):
            with self.assertRaises(NotMade) as caught:
                tree_of(ROW)
            self.assertIn(caught.exception.four, ([0, 1, 2, 3], [3, 2, 1, 0]))
            caught.exception.four.clear()
        self.assertTrue(telling(ROW).holds(ROW))

    def test_lists_given_back_are_the_askers(self):
        first = twins(RING_OF_FOUR)
        kept = list(first)
        first.clear()
        self.assertEqual(twins(RING_OF_FOUR), kept)

    def test_answers_stay_when_the_web_changes(self):
        web = list(ROW)
        row, found = telling(web), twins(web)
        web.clear()
        self.assertTrue(row.holds(ROW))
        self.assertEqual(found, [])


if __name__ == "__main__":
    unittest.main()
