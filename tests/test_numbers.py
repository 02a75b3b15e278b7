import unittest
from itertools import combinations, product

from besideweb.errors import BadWeb, NotMade
from besideweb.numbers import Coloured, Covered, aparts, coloured, covered, crowds
from besideweb.tellings import Answer
from helper import (
    ALL_TIES, BAD_WEBS, NO_TIES, RING_OF_FIVE, RING_OF_FOUR, RING_OF_TEN, ROW, chance_plans, chance_webs, every_web,
    is_plain, pairs_of, plan_web, refused_alike, rows_in, small_webs, web_with)

TWO_AND_THREE = web_with(5, [(0, 3), (1, 2), (1, 4), (2, 4)])
ONE_ROW = web_with(10, [(9, 3), (3, 7), (7, 1)])
ASKED = (coloured, covered, crowds, aparts)


def each_two(points, pairs, wanted):
    """Whether no point stands twice and each two are tied, or none, as wanted."""
    points = sorted(points)
    return len(set(points)) == len(points) and all((pair in pairs) == wanted for pair in combinations(points, 2))


def all_sets(web, wanted):
    """Every set of points each two of which are tied, or none, as wanted."""
    pairs = pairs_of(web)
    sizes = range(len(web) + 1)
    return [chosen for size in sizes for chosen in combinations(range(len(web)), size)
            if each_two(chosen, pairs, wanted)]


def is_coloured(web, crowd, colours):
    pairs = pairs_of(web)
    return (each_two(crowd, pairs, True) and len(colours) == len(web)
            and all(0 <= colour < len(crowd) for colour in colours)
            and all(colours[one] != colours[other] for one, other in pairs))


def is_covered(web, apart, held):
    pairs = pairs_of(web)
    return (each_two(apart, pairs, False) and len(held) == len(apart)
            and all(crowd and each_two(crowd, pairs, True) for crowd in held)
            and sorted(sum(held, [])) == list(range(len(web))))


def lists_of(values, most):
    return [list(chosen) for size in range(most + 1) for chosen in product(values, repeat=size)]


class Kinds(unittest.TestCase):
    def test_what_stands_under_what(self):
        self.assertEqual(Coloured.__bases__, (Answer,))
        self.assertEqual(Covered.__bases__, (Answer,))

    def test_fields(self):
        one = Coloured([2, 0], [5, -1, 7])
        self.assertEqual((one.crowd, one.colours), ([2, 0], [5, -1, 7]))
        other = Covered([1], [[2, 0], [], [1, 1]])
        self.assertEqual((other.apart, other.crowds), ([1], [[2, 0], [], [1, 1]]))
        for field in (one.crowd, one.colours, other.apart, other.crowds, other.crowds[0]):
            self.assertIsInstance(field, list)

    def test_arguments_by_name(self):
        self.assertTrue(Coloured(crowd=[0], colours=[0]).holds(web=[0]))
        self.assertTrue(Covered(apart=[0], crowds=[[0]]).holds(web=[0]))
        self.assertTrue(coloured(web=[0]).holds([0]))
        self.assertTrue(covered(web=[0]).holds([0]))
        self.assertEqual((crowds(web=[0]), aparts(web=[0])), (2, 2))


class Numbers(unittest.TestCase):
    def check_numbers(self, web):
        """Hold all four answers at a plain web against a look at all sets of points."""
        tied, apart = all_sets(web, True), all_sets(web, False)
        self.assertEqual(crowds(web), len(tied), web)
        self.assertEqual(aparts(web), len(apart), web)
        one = coloured(web)
        self.assertEqual(one.__class__, Coloured)
        self.assertTrue(is_coloured(web, one.crowd, one.colours), web)
        self.assertEqual(len(one.crowd), max(map(len, tied)), web)
        self.assertEqual(one.crowd, sorted(one.crowd))
        self.assertIs(one.holds(web), True)
        other = covered(web)
        self.assertEqual(other.__class__, Covered)
        self.assertTrue(is_covered(web, other.apart, other.crowds), web)
        self.assertEqual(len(other.apart), max(map(len, apart)), web)
        self.assertEqual(other.apart, sorted(other.apart))
        self.assertIs(other.holds(web), True)

    def test_one_point(self):
        self.assertEqual((crowds([0]), aparts([0])), (2, 2))
        self.assertEqual((coloured([0]).crowd, coloured([0]).colours), ([0], [0]))
        self.assertEqual((covered([0]).apart, covered([0]).crowds), ([0], [[0]]))

    def test_ordinary_webs(self):
        self.assertEqual((crowds(RING_OF_FOUR), aparts(RING_OF_FOUR)), (9, 7))
        self.assertEqual((crowds(TWO_AND_THREE), aparts(TWO_AND_THREE)), (11, 12))
        self.assertEqual(coloured(TWO_AND_THREE).crowd, [1, 2, 4])
        self.assertEqual(sorted(map(sorted, covered(TWO_AND_THREE).crowds)), [[0, 3], [1, 2, 4]])
        for web in (RING_OF_FOUR, TWO_AND_THREE):
            self.check_numbers(web)

    def test_webs_without_ties_and_with_all(self):
        self.assertEqual((crowds(NO_TIES), aparts(NO_TIES)), (11, 1024))
        self.assertEqual((crowds(ALL_TIES), aparts(ALL_TIES)), (1024, 11))
        self.assertEqual(coloured(ALL_TIES).crowd, list(range(10)))
        self.assertEqual(coloured(NO_TIES).colours, [0] * 10)
        self.assertEqual(covered(NO_TIES).apart, list(range(10)))
        self.assertEqual(sorted(covered(ALL_TIES).crowds[0]), list(range(10)))
        for web in (NO_TIES, ALL_TIES):
            self.check_numbers(web)

    def test_every_plain_web_of_up_to_five_points(self):
        for web in small_webs(5):
            if is_plain(web):
                self.check_numbers(web)

    def test_greater_plain_webs(self):
        for plan in chance_plans(6, 10, 10):
            self.check_numbers(plan_web(plan))

    def test_a_crowd_that_comes_out_of_order_is_told_rising(self):
        # Of this web's tree the second tree begins below where the first one ends.
        web = plan_web(("*", ("+", 0, ("*", 4, 5)), ("+", 1, ("*", 2, 3))))
        self.assertEqual(coloured(web).crowd, [2, 3, 4, 5])
        turned_web = plan_web(("+", ("*", 0, ("+", 4, 5)), ("*", 1, ("+", 2, 3))))
        self.assertEqual(covered(turned_web).apart, [2, 3, 4, 5])


class ColouredHolds(unittest.TestCase):
    def held(self, web, crowd, colours):
        answer = Coloured(crowd, colours).holds(web)
        self.assertIsInstance(answer, bool)
        return answer

    def test_what_is_so(self):
        self.assertTrue(self.held(RING_OF_FOUR, [0, 1], [0, 1, 0, 1]))
        self.assertTrue(self.held(RING_OF_FOUR, [2, 3], [1, 0, 1, 0]))
        self.assertTrue(self.held(TWO_AND_THREE, [1, 2, 4], [2, 0, 1, 0, 2]))
        self.assertTrue(self.held(NO_TIES, [7], [0] * 10))
        self.assertTrue(self.held(ALL_TIES, list(range(10)), [3, 1, 4, 0, 5, 9, 2, 6, 8, 7]))

    def test_a_crowd_in_another_order(self):
        self.assertTrue(self.held(TWO_AND_THREE, [4, 1, 2], [2, 0, 1, 0, 2]))
        self.assertTrue(self.held(RING_OF_FOUR, [1, 0], [0, 1, 0, 1]))

    def test_a_web_that_is_not_plain(self):
        self.assertTrue(self.held(ROW, [1, 2], [0, 1, 0, 1]))
        self.assertFalse(self.held(ROW, [0, 2], [0, 1, 0, 1]))
        self.assertFalse(self.held(ROW, [1, 2], [0, 1, 1, 0]))
        self.assertTrue(self.held(RING_OF_TEN, [9, 0], [0, 1] * 5))
        self.assertFalse(self.held(RING_OF_TEN, [8, 0], [0, 1] * 5))

    def test_no_colours_do_for_a_ring_of_five(self):
        for colours in product(range(3), repeat=5):
            self.assertFalse(self.held(RING_OF_FIVE, [0, 1], list(colours)))
        self.assertFalse(self.held(RING_OF_FIVE, [0, 1, 2], [0, 1, 0, 1, 2]))

    def test_crowds_that_are_none(self):
        self.assertFalse(self.held(RING_OF_FOUR, [0, 2], [0, 1, 0, 1]))
        self.assertFalse(self.held(RING_OF_FOUR, [0, 1, 2], [0, 1, 0, 1]))
        self.assertFalse(self.held(RING_OF_FOUR, [0, 0], [0, 1, 0, 1]))
        self.assertFalse(self.held(RING_OF_FOUR, [0, 1, 0], [0, 1, 0, 1]))
        self.assertFalse(self.held([0], [0, 0], [0]))

    def test_a_crowd_with_one_more_or_one_less(self):
        self.assertFalse(self.held(TWO_AND_THREE, [1, 2], [2, 0, 1, 0, 2]))
        self.assertFalse(self.held(TWO_AND_THREE, [1, 2, 4, 0], [2, 0, 1, 0, 2]))
        self.assertFalse(self.held(RING_OF_FOUR, [0], [0, 1, 0, 1]))
        self.assertFalse(self.held(RING_OF_FOUR, [], [0, 1, 0, 1]))

    def test_colours_out_of_bounds(self):
        self.assertFalse(self.held(RING_OF_FOUR, [0, 1], [0, 2, 0, 2]))
        self.assertFalse(self.held(RING_OF_FOUR, [0, 1], [0, -1, 0, -1]))
        self.assertFalse(self.held(RING_OF_FOUR, [0, 1], [0, 1, 0, 2]))
        self.assertFalse(self.held([0], [0], [1]))
        self.assertFalse(self.held([0], [0], [-1]))
        self.assertFalse(self.held([0], [0], [10 ** 30]))

    def test_one_colour_too_many_or_too_few(self):
        self.assertFalse(self.held(RING_OF_FOUR, [0, 1], [0, 1, 0]))
        self.assertFalse(self.held(RING_OF_FOUR, [0, 1], [0, 1, 0, 1, 0]))
        self.assertFalse(self.held([0], [0], []))
        self.assertFalse(self.held([0], [0], [0, 0]))
        self.assertFalse(self.held([0], [], []))

    def test_tied_points_of_one_colour(self):
        self.assertFalse(self.held(RING_OF_FOUR, [0, 1], [0, 1, 1, 0]))
        self.assertFalse(self.held(ALL_TIES, list(range(10)), [0] + list(range(9))))

    def test_points_that_the_web_has_not(self):
        self.assertFalse(self.held([2, 1], [1, 2], [0, 1]))
        self.assertFalse(self.held([2, 1], [-2, 1], [0, 1]))

    def test_every_crowd_and_colours_at_every_web_of_up_to_three_points(self):
        for web in small_webs(3):
            for crowd in lists_of(range(len(web)), 3):
                for colours in lists_of(range(-1, 4), 3):
                    wanted = is_coloured(web, crowd, colours)
                    self.assertIs(self.held(web, crowd, colours), wanted, (web, crowd, colours))

    def test_every_colours_at_webs_of_four_points(self):
        for web in every_web(4):
            crowd = list(max(all_sets(web, True), key=len))
            for colours in product(range(4), repeat=4):
                wanted = is_coloured(web, crowd, list(colours))
                self.assertIs(self.held(web, crowd, list(colours)), wanted, (web, crowd, colours))


class CoveredHolds(unittest.TestCase):
    def held(self, web, apart, held):
        answer = Covered(apart, held).holds(web)
        self.assertIsInstance(answer, bool)
        return answer

    def test_what_is_so(self):
        self.assertTrue(self.held(RING_OF_FOUR, [0, 2], [[0, 1], [2, 3]]))
        self.assertTrue(self.held(RING_OF_FOUR, [3, 1], [[3, 0], [2, 1]]))
        self.assertTrue(self.held(TWO_AND_THREE, [0, 4], [[4, 1, 2], [0, 3]]))
        self.assertTrue(self.held(NO_TIES, list(range(9, -1, -1)), [[point] for point in range(10)]))
        self.assertTrue(self.held(ALL_TIES, [5], [[3, 1, 4, 0, 5, 9, 2, 6, 8, 7]]))

    def test_a_web_that_is_not_plain(self):
        self.assertTrue(self.held(ROW, [0, 3], [[1, 0], [2, 3]]))
        self.assertFalse(self.held(ROW, [0, 1], [[1, 0], [2, 3]]))
        self.assertFalse(self.held(ROW, [0, 3], [[0, 2], [1, 3]]))
        self.assertTrue(self.held(RING_OF_TEN, [0, 2, 4, 6, 8], [[9, 0], [1, 2], [3, 4], [5, 6], [7, 8]]))
        self.assertFalse(self.held(RING_OF_FIVE, [0, 2], [[0, 1], [2, 3, 4]]))
        self.assertFalse(self.held(RING_OF_FIVE, [0, 2], [[0, 1], [2, 3], [4]]))

    def test_points_that_are_not_apart(self):
        self.assertFalse(self.held(RING_OF_FOUR, [0, 1], [[0, 1], [2, 3]]))
        self.assertFalse(self.held(RING_OF_FOUR, [0, 0], [[0, 1], [2, 3]]))

    def test_one_apart_more_or_less(self):
        self.assertFalse(self.held(RING_OF_FOUR, [0], [[0, 1], [2, 3]]))
        self.assertFalse(self.held(RING_OF_FOUR, [0, 2], [[0], [1], [2, 3]]))
        self.assertFalse(self.held(TWO_AND_THREE, [0, 4, 3], [[4, 1, 2], [0, 3]]))
        self.assertFalse(self.held([0, 0], [0], [[0], [1]]))
        self.assertFalse(self.held([0], [], []))

    def test_an_empty_crowd(self):
        self.assertFalse(self.held([2, 1], [0, 1], [[0, 1], []]))
        self.assertFalse(self.held([0, 0, 0], [0, 1, 2], [[0], [], [1], [2]]))
        self.assertFalse(self.held(web_with(3, [(0, 1)]), [0, 2], [[], [0, 1, 2]]))
        self.assertFalse(self.held([0], [0], [[]]))
        self.assertFalse(self.held(web_with(4, [(0, 1), (2, 3)]), [0, 2], [[0, 1], [2, 3], []]))
        self.assertFalse(self.held(web_with(4, [(0, 1), (2, 3)]), [0, 2, 1], [[0, 1], [2, 3], []]))

    def test_a_point_held_twice_or_not_at_all(self):
        self.assertFalse(self.held(RING_OF_FOUR, [0, 2], [[0, 1], [1, 2]]))
        self.assertFalse(self.held(RING_OF_FOUR, [0, 2], [[0, 1], [2]]))
        self.assertFalse(self.held(RING_OF_FOUR, [0, 2], [[0, 1], [2, 3, 2]]))
        self.assertFalse(self.held(web_with(3, [(0, 1), (1, 2)]), [0, 2], [[0, 1], [1, 2]]))
        self.assertFalse(self.held([0, 0], [0, 1], [[0], [0]]))
        self.assertFalse(self.held([0], [0], [[0, 0]]))

    def test_crowds_that_are_none(self):
        self.assertFalse(self.held(RING_OF_FOUR, [0, 2], [[0, 2], [1, 3]]))
        self.assertFalse(self.held([0, 0], [0], [[0, 1]]))

    def test_points_that_the_web_has_not(self):
        self.assertFalse(self.held([0, 0], [1, 2], [[0], [1]]))
        self.assertFalse(self.held([0, 0], [0, 1], [[0], [2]]))

    def test_every_covering_at_every_web_of_up_to_two_points(self):
        for web in small_webs(2):
            inner = lists_of(range(len(web)), 2)
            for apart in inner:
                for held in lists_of(inner, 3):
                    self.assertIs(self.held(web, apart, held), is_covered(web, apart, held), (web, apart, held))

    def test_every_covering_by_two_at_every_web_of_three_points(self):
        inner = lists_of(range(3), 2) + [[0, 1, 2], [2, 1, 0], [0, 1, 1]]
        for web in every_web(3):
            for apart in lists_of(range(3), 2):
                for held in lists_of(inner, 2):
                    self.assertIs(self.held(web, apart, held), is_covered(web, apart, held), (web, apart, held))


class NumbersRefused(unittest.TestCase):
    def test_bad_web_for_all(self):
        for web in BAD_WEBS:
            with self.subTest(web=web):
                refused_alike(self, BadWeb, [
                    lambda: coloured(web), lambda: covered(web), lambda: crowds(web), lambda: aparts(web),
                    lambda: Coloured([0], [0]).holds(web), lambda: Covered([0], [[0]]).holds(web)])

    def test_not_made_for_all_with_four_of_this_web(self):
        webs = [ROW, RING_OF_FIVE, RING_OF_TEN, ONE_ROW] + small_webs(4) + chance_webs(5, 10, 6)
        for web in webs:
            rows = rows_in(web)
            for ask in ASKED if rows else ():
                with self.subTest(web=web, ask=ask):
                    with self.assertRaises(NotMade) as caught:
                        ask(web)
                    self.assertEqual(caught.exception.__class__, NotMade)
                    self.assertIn(caught.exception.four, rows)


class NumbersOwned(unittest.TestCase):
    def test_what_is_handed_in_stays(self):
        web = list(TWO_AND_THREE)
        for ask in ASKED:
            ask(web)
        coloured(web).holds(web), covered(web).holds(web)
        self.assertEqual(web, TWO_AND_THREE)

    def test_lists_handed_in_are_not_changed(self):
        crowd, colours, apart, held = [4, 1, 2], [2, 0, 1, 0, 2], [4, 0], [[4, 1, 2], [3, 0]]
        Coloured(crowd, colours).holds(TWO_AND_THREE)
        Covered(apart, held).holds(TWO_AND_THREE)
        self.assertEqual((crowd, colours), ([4, 1, 2], [2, 0, 1, 0, 2]))
        self.assertEqual((apart, held), ([4, 0], [[4, 1, 2], [3, 0]]))

    def test_lists_handed_in_are_not_kept(self):
        crowd, colours, apart, held = [1, 2, 4], [2, 0, 1, 0, 2], [0, 4], [[1, 2, 4], [0, 3]]
        one, other = Coloured(crowd, colours), Covered(apart, held)
        held[0].append(9)
        for given in (crowd, colours, apart, held):
            given.clear()
        self.assertEqual((one.crowd, one.colours), ([1, 2, 4], [2, 0, 1, 0, 2]))
        self.assertEqual((other.apart, other.crowds), ([0, 4], [[1, 2, 4], [0, 3]]))
        self.assertTrue(one.holds(TWO_AND_THREE) and other.holds(TWO_AND_THREE))

    def test_fields_are_the_askers(self):
        crowd, colours, apart, held = [1, 2, 4], [2, 0, 1, 0, 2], [0, 4], [[1, 2, 4], [0, 3]]
        one, other = Coloured(crowd, colours), Covered(apart, held)
        other.crowds[0].append(9)
        for field in (one.crowd, one.colours, other.apart, other.crowds):
            field.clear()
        self.assertEqual((crowd, colours), ([1, 2, 4], [2, 0, 1, 0, 2]))
        self.assertEqual((apart, held), ([0, 4], [[1, 2, 4], [0, 3]]))

    def test_answers_do_not_hang_on_one_another(self):
        first, kept = coloured(TWO_AND_THREE), coloured(TWO_AND_THREE)
        first.crowd.clear()
        first.colours[0] = 99
        self.assertTrue(kept.holds(TWO_AND_THREE) and coloured(TWO_AND_THREE).holds(TWO_AND_THREE))
        first, kept = covered(TWO_AND_THREE), covered(TWO_AND_THREE)
        first.crowds[0].clear()
        first.crowds.append([0])
        first.apart.clear()
        self.assertTrue(kept.holds(TWO_AND_THREE) and covered(TWO_AND_THREE).holds(TWO_AND_THREE))

    def test_refusals_fields_are_the_askers(self):
        for ask in ASKED * 2:
            with self.assertRaises(NotMade) as caught:
                ask(ROW)
            self.assertIn(caught.exception.four, ([0, 1, 2, 3], [3, 2, 1, 0]))
            caught.exception.four.clear()


if __name__ == "__main__":
    unittest.main()
