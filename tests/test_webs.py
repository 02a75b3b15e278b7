import unittest
from itertools import permutations

from besideweb.errors import BadWeb, NoPoint
from besideweb.webs import among, parts, turned
from helper import (
    ALL_TIES, BAD_WEBS, NO_NUMBERS, NO_TIES, RING_OF_TEN, ROW, every_pair, every_web, pairs_of, refused_alike, web_with)

BAD_POINTS = [
    None, "", "01", 0, True, (), (0,), (0, 1), {}, {0: 1}, range(2),
    [], [0, 0], [1, 0, 2, 1], [3, 3], [4], [0, 4], [-1], [0, -1], [10], [0, 100],
] + [[wrong] for wrong in NO_NUMBERS] + [[0, wrong] for wrong in NO_NUMBERS] + [[2, 3, wrong] for wrong in NO_NUMBERS]


class Turned(unittest.TestCase):
    def test_ordinary_webs(self):
        self.assertEqual(turned(ROW), [12, 8, 1, 3])
        self.assertEqual(turned([2, 1, 0]), [4, 4, 3])

    def test_one_point_stays(self):
        self.assertEqual(turned([0]), [0])

    def test_ten_points_without_ties_and_with_all(self):
        self.assertEqual(turned(NO_TIES), ALL_TIES)
        self.assertEqual(turned(ALL_TIES), NO_TIES)
        self.assertEqual(turned([0, 0]), [2, 1])

    def test_ties_just_where_there_were_none(self):
        webs = [web for count in range(1, 6) for web in every_web(count)] + [RING_OF_TEN]
        for web in webs:
            had = pairs_of(web)
            wanted = [pair for pair in every_pair(len(web)) if pair not in had]
            self.assertEqual(turned(web), web_with(len(web), wanted), web)


class Among(unittest.TestCase):
    def test_points_are_numbered_in_the_order_told(self):
        self.assertEqual(among(ROW, [0, 1, 2]), [2, 5, 2])
        self.assertEqual(among(ROW, [1, 0, 2]), [6, 1, 1])
        self.assertEqual(among(ROW, [3, 0]), [0, 0])
        self.assertEqual(among(ROW, [3, 2]), [2, 1])
        self.assertEqual(among(ROW, [3, 1, 2]), [4, 4, 3])

    def test_one_point_alone(self):
        self.assertEqual(among([0], [0]), [0])
        for point in range(10):
            self.assertEqual(among(ALL_TIES, [point]), [0])

    def test_all_points_in_order_are_the_same_web(self):
        for web in (ROW, RING_OF_TEN, NO_TIES, ALL_TIES):
            self.assertEqual(among(web, list(range(len(web)))), web)

    def test_ten_points_the_other_way_round(self):
        wanted = web_with(10, [(9 - one, 9 - other) for one, other in pairs_of(RING_OF_TEN)])
        self.assertEqual(among(RING_OF_TEN, list(range(9, -1, -1))), wanted)
        ladder = web_with(10, [(0, 9), (1, 5), (2, 9), (5, 9)])
        self.assertEqual(among(ladder, [9, 5, 1, 0]), web_with(4, [(0, 1), (1, 2), (0, 3)]))

    def test_webs_without_ties_and_with_all(self):
        self.assertEqual(among(NO_TIES, [7, 2, 9]), [0, 0, 0])
        self.assertEqual(among(ALL_TIES, [7, 2, 9]), [6, 5, 3])

    def test_every_order_of_every_small_choice(self):
        for web in every_web(4):
            had = pairs_of(web)
            for count in range(1, 5):
                for chosen in permutations(range(4), count):
                    wanted = [(a, b) for a, b in every_pair(count) if tuple(sorted((chosen[a], chosen[b]))) in had]
                    self.assertEqual(among(web, list(chosen)), web_with(count, wanted), (web, chosen))


class Parts(unittest.TestCase):
    def test_ordinary_webs(self):
        self.assertEqual(parts(ROW), [[0, 1, 2, 3]])
        self.assertEqual(parts(web_with(6, [(0, 5), (1, 3), (3, 4)])), [[0, 5], [1, 3, 4], [2]])

    def test_one_point(self):
        self.assertEqual(parts([0]), [[0]])

    def test_ten_points(self):
        self.assertEqual(parts(NO_TIES), [[k] for k in range(10)])
        self.assertEqual(parts(ALL_TIES), [list(range(10))])
        self.assertEqual(parts(RING_OF_TEN), [list(range(10))])

    def test_a_long_way_through_points_out_of_order(self):
        way = [0, 8, 2, 6, 4, 9]
        web = web_with(10, list(zip(way, way[1:])) + [(7, 1), (3, 7)])
        self.assertEqual(parts(web), [[0, 2, 4, 6, 8, 9], [1, 3, 7], [5]])

    def test_every_web_of_up_to_five_points(self):
        for count in range(1, 6):
            for web in every_web(count):
                self.assertEqual(parts(web), parts_by_merging(web), web)


def parts_by_merging(web):
    groups = [{point} for point in range(len(web))]
    for one, other in pairs_of(web):
        touched = [group for group in groups if one in group or other in group]
        groups = [group for group in groups if group not in touched] + [set().union(*touched)]
    return sorted(sorted(group) for group in groups)


class WebsRefused(unittest.TestCase):
    def test_bad_web_for_all(self):
        for web in BAD_WEBS:
            with self.subTest(web=web):
                refused_alike(self, BadWeb, [
                    lambda: turned(web), lambda: among(web, [0]), lambda: parts(web)])

    def test_bad_web_ahead_of_no_point(self):
        for web in BAD_WEBS:
            for points in BAD_POINTS:
                with self.subTest(web=web, points=points):
                    refused_alike(self, BadWeb, [lambda: among(web, points)])

    def test_no_point(self):
        for points in BAD_POINTS:
            with self.subTest(points=points):
                refused_alike(self, NoPoint, [lambda: among(ROW, points)])

    def test_no_point_at_the_smallest_and_the_greatest_web(self):
        for web, points in (([0], [1]), ([0], [False]), ([0], []), (ALL_TIES, [10]), (ALL_TIES, list(range(10)) + [0])):
            with self.subTest(web=web, points=points):
                refused_alike(self, NoPoint, [lambda: among(web, points)])


class WebsOwned(unittest.TestCase):
    def test_what_is_handed_in_stays(self):
        web, points = list(RING_OF_TEN), [4, 0, 9]
        turned(web), among(web, points), parts(web)
        self.assertEqual(web, RING_OF_TEN)
        self.assertEqual(points, [4, 0, 9])

    def test_what_is_refused_stays(self):
        web, points = [2, 0], [0, 0]
        for call in (lambda: turned(web), lambda: among(web, points), lambda: parts(web), lambda: among(ROW, points)):
            with self.assertRaises(ValueError):
                call()
        self.assertEqual((web, points), ([2, 0], [0, 0]))

    def test_what_is_given_back_is_the_askers(self):
        asked = [(turned, ([0],)), (turned, (ROW,)), (among, (ROW, [0, 1, 2, 3])), (among, ([0], [0])), (parts, (ROW,))]
        for ask, given in asked:
            first = ask(*given)
            kept = list(first)
            first.append(99)
            first[0] = 77
            self.assertEqual(ask(*given), kept)
        self.assertEqual(ROW, [2, 5, 10, 4])

    def test_inner_lists_of_parts_are_the_askers(self):
        web = [2, 1, 0]
        first = parts(web)
        first[0].append(99)
        first[1].clear()
        self.assertEqual(parts(web), [[0, 1], [2]])

    def test_answers_stay_when_what_was_handed_in_changes(self):
        web, points = [2, 1, 0], [0, 1, 2]
        answers = [turned(web), among(web, points), parts(web)]
        web.clear()
        points.clear()
        self.assertEqual(answers, [[4, 4, 3], [2, 1, 0], [[0, 1], [2]]])


if __name__ == "__main__":
    unittest.main()
