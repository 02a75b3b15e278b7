import unittest

from besideweb.errors import BadTree
from besideweb.trees import Across, Beside, Doing, Point, Tree, web_of
from helper import (
    NO_NUMBERS, every_pair, every_plan, plan_pairs, plan_points, plan_shape, plan_told, tree_from, web_with)

DOINGS = (Beside, Across)


def points_at(*numbers):
    return [Point(number) for number in numbers]


class Kinds(unittest.TestCase):
    def test_what_stands_under_what(self):
        self.assertEqual(Point.__bases__, (Tree,))
        self.assertEqual(Doing.__bases__, (Tree,))
        self.assertEqual(Beside.__bases__, (Doing,))
        self.assertEqual(Across.__bases__, (Doing,))

    def test_tree_has_the_three_methods(self):
        for name in ("points", "told", "shape"):
            self.assertTrue(callable(getattr(Tree, name)))

    def test_fields(self):
        for number in range(10):
            self.assertEqual(Point(number).at, number)
        for doing in DOINGS:
            given = points_at(3, 1)
            made = doing(given)
            self.assertIsInstance(made.trees, list)
            self.assertEqual(made.trees, given)

    def test_arguments_by_name(self):
        self.assertEqual(Point(at=4).at, 4)
        self.assertEqual(Beside(trees=points_at(0, 1)).told(), "(0+1)")
        self.assertEqual(Across(trees=points_at(0, 1)).told(), "(0*1)")
        self.assertEqual(web_of(tree=Point(0)), [0])


class Telling(unittest.TestCase):
    def test_a_point_alone(self):
        for number in range(10):
            point = Point(number)
            self.assertEqual(point.points(), [number])
            self.assertEqual(point.told(), str(number))
            self.assertEqual(point.shape(), "o")
        self.assertEqual(web_of(Point(0)), [0])

    def test_two_points(self):
        self.assertEqual(Beside(points_at(0, 1)).told(), "(0+1)")
        self.assertEqual(Across(points_at(1, 0)).told(), "(1*0)")
        self.assertEqual(Beside(points_at(5, 2)).points(), [5, 2])
        self.assertEqual(Beside(points_at(0, 1)).shape(), "(o+o)")
        self.assertEqual(Across(points_at(7, 8)).shape(), "(o*o)")
        self.assertEqual(web_of(Beside(points_at(0, 1))), [0, 0])
        self.assertEqual(web_of(Across(points_at(0, 1))), [2, 1])

    def test_the_documents_tree(self):
        tree = tree_from(("+", 0, ("*", 1, 2), 3))
        self.assertEqual(tree.told(), "(0+(1*2)+3)")
        self.assertEqual(tree.points(), [0, 1, 2, 3])
        self.assertEqual(tree.shape(), "((o*o)+o+o)")
        self.assertEqual(web_of(tree), [0, 4, 2, 0])

    def test_a_doing_straight_in_the_same_doing(self):
        beside = tree_from(("+", 2, ("+", 1, 0)))
        self.assertEqual(beside.told(), "(2+(1+0))")
        self.assertEqual(beside.points(), [2, 1, 0])
        self.assertEqual(beside.shape(), "((o+o)+o)")
        self.assertEqual(web_of(beside), [0, 0, 0])
        across = tree_from(("*", ("*", 3, 0), 1, 2))
        self.assertEqual(across.told(), "((3*0)*1*2)")
        self.assertEqual(across.points(), [3, 0, 1, 2])
        self.assertEqual(across.shape(), "((o*o)*o*o)")
        self.assertEqual(web_of(across), [14, 13, 11, 7])

    def test_across_ties_the_trees_and_not_within_them(self):
        tree = tree_from(("*", ("+", 3, 0), ("+", 2, 1)))
        self.assertEqual(web_of(tree), [6, 9, 9, 6])

    def test_shapes_stand_in_the_order_of_texts(self):
        tree = tree_from(("*", 9, ("+", 8, 7), ("+", 6, ("*", 5, 4)), 3))
        self.assertEqual(tree.shape(), "(((o*o)+o)*(o+o)*o*o)")
        other = tree_from(("+", ("*", 0, 1, 2), ("*", 3, 4), ("*", ("+", 5, 6), 7)))
        self.assertEqual(other.shape(), "(((o+o)*o)+(o*o)+(o*o*o))")

    def test_ten_points(self):
        tree = tree_from(("+", ("*", 9, 8, ("+", 7, 6)), ("*", ("*", 5, 4), 3), ("+", 2, 1), 0))
        self.assertEqual(tree.told(), "((9*8*(7+6))+((5*4)*3)+(2+1)+0)")
        self.assertEqual(tree.points(), [9, 8, 7, 6, 5, 4, 3, 2, 1, 0])
        wanted = [(9, 8), (9, 7), (9, 6), (8, 7), (8, 6), (5, 4), (5, 3), (4, 3)]
        self.assertEqual(web_of(tree), web_with(10, wanted))

    def test_ten_points_all_beside_and_all_across(self):
        order = [4, 9, 0, 2, 7, 5, 1, 8, 3, 6]
        self.assertEqual(web_of(Beside(points_at(*order))), [0] * 10)
        self.assertEqual(web_of(Across(points_at(*order))), web_with(10, every_pair(10)))

    def test_as_deep_as_ten_points_go(self):
        plan = 0
        for point in range(1, 10):
            plan = ("*" if point % 2 else "+", point, plan)
        tree = tree_from(plan)
        self.assertEqual(tree.told(), "(9*(8+(7*(6+(5*(4+(3*(2+(1*0)))))))))")
        self.assertEqual(web_of(tree), web_with(10, plan_pairs(plan)))

    def test_every_tree_of_up_to_four_points(self):
        for count in range(1, 5):
            for plan in every_plan(tuple(range(count))):
                tree = tree_from(plan)
                self.assertEqual(tree.told(), plan_told(plan))
                self.assertEqual(tree.points(), plan_points(plan))
                self.assertEqual(tree.shape(), plan_shape(plan))
                self.assertEqual(web_of(tree), web_with(count, plan_pairs(plan)), plan)

    def test_points_that_are_not_0_to_one_below_their_count(self):
        tree = tree_from(("*", 9, ("+", 4, 7)))
        self.assertEqual(tree.told(), "(9*(4+7))")
        self.assertEqual(tree.points(), [9, 4, 7])
        self.assertEqual(tree.shape(), "((o+o)*o)")


class TreesRefused(unittest.TestCase):
    def refused(self, call, *given):
        with self.subTest(call=call, given=given):
            with self.assertRaises(BadTree) as caught:
                call(*given)
            self.assertEqual(caught.exception.__class__, BadTree)

    def test_point_of_no_number_from_0_to_9(self):
        for at in NO_NUMBERS + [-1, 10, 11, 100, -10, "0", Point(0)]:
            self.refused(Point, at)

    def test_none_is_made_of_tree_or_doing(self):
        self.refused(Tree)
        self.refused(Tree, 0)
        self.refused(Tree, points_at(0, 1))
        self.refused(Doing)
        self.refused(Doing, points_at(0, 1))
        self.refused(Doing, [])

    def test_doings_of_no_list(self):
        for doing in DOINGS:
            for trees in (None, 2, True, "(0+1)", "01", {}, {0: 1}, tuple(points_at(0, 1)), Point(0),
                          Beside(points_at(0, 1)), iter(points_at(0, 1))):
                self.refused(doing, trees)

    def test_doings_of_fewer_than_two(self):
        for doing in DOINGS:
            self.refused(doing, [])
            self.refused(doing, [Point(0)])
            self.refused(doing, [Beside(points_at(0, 1))])
            self.refused(doing, [Across(points_at(0, 1))])

    def test_doings_of_what_is_no_tree(self):
        for doing in DOINGS:
            for wrong in NO_NUMBERS + [0, 1, "o", points_at(1), points_at(1, 2), Point, Tree]:
                self.refused(doing, [Point(0), wrong])
                self.refused(doing, [wrong, Point(0)])
                self.refused(doing, [Point(0), Point(1), wrong])
                self.refused(doing, [wrong, wrong])

    def test_doings_with_a_point_in_common(self):
        shared = Point(3)
        for doing in DOINGS:
            self.refused(doing, points_at(0, 0))
            self.refused(doing, [shared, shared])
            self.refused(doing, points_at(0, 1, 2, 0))
            for inner in DOINGS:
                self.refused(doing, [Point(0), inner(points_at(1, 0))])
                self.refused(doing, [inner(points_at(1, 2)), inner(points_at(0, 2))])
                self.refused(doing, [inner([Point(4), inner(points_at(5, 6))]), Point(1), Point(6)])

    def test_web_of_no_tree(self):
        for wrong in NO_NUMBERS + [0, 1, "(0+1)", points_at(0), points_at(0, 1), [0], [2, 1], Point, Tree]:
            self.refused(web_of, wrong)

    def test_web_of_points_that_are_not_0_to_one_below_their_count(self):
        for number in range(1, 10):
            self.refused(web_of, Point(number))
        for doing in DOINGS:
            self.refused(web_of, doing(points_at(1, 2)))
            self.refused(web_of, doing(points_at(0, 2)))
            self.refused(web_of, doing(points_at(*range(1, 10))))
            self.refused(web_of, doing([Point(0), doing(points_at(1, 3))]))


class TreesOwned(unittest.TestCase):
    def test_trees_stand_where_they_are_put(self):
        for doing in DOINGS:
            inner = Across(points_at(1, 2))
            given = [Point(3), inner, Point(0)]
            made = doing(given)
            self.assertTrue(all(here is there for here, there in zip(made.trees, given)))
            self.assertEqual(len(made.trees), 3)

    def test_one_tree_may_be_put_in_several(self):
        inner = Beside(points_at(0, 1))
        one, other = Across([inner, Point(2)]), Across([Point(2), inner])
        self.assertEqual((one.told(), other.told(), inner.told()), ("((0+1)*2)", "(2*(0+1))", "(0+1)"))

    def test_the_list_handed_in_is_neither_changed_nor_kept(self):
        for doing in DOINGS:
            given = points_at(2, 0, 1)
            before = list(given)
            made = doing(given)
            asked = self.all_of(made)
            self.assertEqual(given, before)
            given.reverse()
            given.append(Point(9))
            self.assertEqual(self.all_of(made), asked)
            self.assertEqual(made.trees, before)

    def test_a_refused_list_stays(self):
        for doing in DOINGS:
            given = points_at(0, 1, 0)
            before = list(given)
            with self.assertRaises(BadTree):
                doing(given)
            self.assertEqual(given, before)

    def test_lists_given_back_are_the_askers(self):
        for tree in (Point(0), Beside(points_at(1, 0)), tree_from(("*", ("+", 1, 2), 0))):
            asked = self.all_of(tree)
            tree.points().append(9)
            tree.points().clear()
            web_of(tree).append(9)
            web_of(tree)[0] = 99
            self.assertEqual(self.all_of(tree), asked)

    def test_inner_lists_of_points_are_not_those_of_the_whole(self):
        inner = Beside(points_at(1, 2))
        whole = Across([inner, Point(0)])
        inner.points().append(7)
        inner.trees[0].points().append(8)
        self.assertEqual(whole.points(), [1, 2, 0])

    def test_the_field_is_the_askers_too(self):
        for doing in DOINGS:
            inner = doing(points_at(1, 2))
            tree = doing([Point(0), inner])
            asked = self.all_of(tree)
            tree.trees.reverse()
            tree.trees.append(tree)
            inner.trees.clear()
            self.assertEqual(self.all_of(tree), asked)

    def test_web_of_leaves_the_tree_as_it_was(self):
        tree = tree_from(("*", ("+", 3, 1), 2, 0))
        before = list(tree.trees)
        first = web_of(tree)
        self.assertEqual(tree.told(), "((3+1)*2*0)")
        self.assertEqual(tree.trees, before)
        self.assertEqual(web_of(tree), first)

    def all_of(self, tree):
        return tree.points(), tree.told(), tree.shape(), web_of(tree)


if __name__ == "__main__":
    unittest.main()
