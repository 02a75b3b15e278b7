"""What several test files need: webs from pairs, every small web, trees from plain tuples, a look at all fours."""

from itertools import combinations, permutations
from random import Random

from besideweb.trees import Across, Beside, Point

NO_NUMBERS = [True, False, "1", "", None, [], (), {}, 1.0]


def web_with(count, pairs):
    web = [0] * count
    for one, other in pairs:
        web[one] |= 1 << other
        web[other] |= 1 << one
    return web


def every_pair(count):
    return list(combinations(range(count), 2))


def every_web(count):
    pairs = every_pair(count)
    for chosen in range(1 << len(pairs)):
        yield web_with(count, [pair for k, pair in enumerate(pairs) if chosen >> k & 1])


def pairs_of(web):
    """The tied pairs, read off the numbers' binary figures."""
    rows = [format(ties, "b").rjust(len(web), "0")[::-1] for ties in web]
    return [(one, other) for one, other in every_pair(len(web)) if rows[one][other] == "1"]


def tree_from(plan):
    """A tree from a point's number or a tuple of a sign and further plans."""
    if not isinstance(plan, tuple):
        return Point(plan)
    made = [tree_from(inner) for inner in plan[1:]]
    return Beside(made) if plan[0] == "+" else Across(made)


def plan_points(plan):
    if not isinstance(plan, tuple):
        return [plan]
    return [point for inner in plan[1:] for point in plan_points(inner)]


def plan_pairs(plan):
    """The tied pairs of a plan: two points are tied where the doing that parts them is across."""
    if not isinstance(plan, tuple):
        return []
    found = [pair for inner in plan[1:] for pair in plan_pairs(inner)]
    if plan[0] == "*":
        for left, right in combinations(plan[1:], 2):
            found += [(one, other) for one in plan_points(left) for other in plan_points(right)]
    return found


def groupings(points):
    """Every way to cut a tuple of points into groups that stand in some order, each point in one."""
    if not points:
        yield []
        return
    first, rest = points[0], points[1:]
    for others in groupings(rest):
        for k in range(len(others) + 1):
            yield others[:k] + [(first,)] + others[k:]
        for k in range(len(others)):
            yield others[:k] + [(first,) + others[k]] + others[k + 1:]


def every_plan(points):
    """The plan of every tree of these points."""
    if len(points) == 1:
        yield points[0]
        return
    for groups in groupings(points):
        if len(groups) > 1:
            for inner in every_choice(groups):
                yield ("+",) + inner
                yield ("*",) + inner


def every_choice(groups):
    if not groups:
        yield ()
        return
    for first in every_plan(groups[0]):
        for rest in every_choice(groups[1:]):
            yield (first,) + rest


def plan_told(plan):
    if not isinstance(plan, tuple):
        return "0123456789"[plan]
    return "(" + plan[0].join(plan_told(inner) for inner in plan[1:]) + ")"


def plan_shape(plan):
    if not isinstance(plan, tuple):
        return "o"
    return "(" + plan[0].join(sorted(plan_shape(inner) for inner in plan[1:])) + ")"


def plan_of(tree):
    """The plan of a tree, read off its fields."""
    if isinstance(tree, Point):
        return tree.at
    return ("+" if isinstance(tree, Beside) else "*",) + tuple(plan_of(inner) for inner in tree.trees)


def plan_web(plan):
    return web_with(len(plan_points(plan)), plan_pairs(plan))


def chance_plan(points, chance):
    """A plan of these points, as chance has it."""
    if len(points) == 1:
        return points[0]
    points = chance.sample(points, len(points))
    cuts = sorted(chance.sample(range(1, len(points)), chance.randint(1, min(3, len(points) - 1))))
    groups = [points[start:end] for start, end in zip([0] + cuts, cuts + [len(points)])]
    return (chance.choice("+*"),) + tuple(chance_plan(group, chance) for group in groups)


def chance_plans(low, high, times):
    """So many plans of each count of points, the same ones at every run."""
    chance = Random(20)
    return [chance_plan(range(count), chance) for count in range(low, high + 1) for time in range(times)]


def chance_webs(low, high, times):
    """So many webs of each count of points, few of them plain, the same ones at every run."""
    chance = Random(21)
    found = []
    for count in range(low, high + 1):
        for time in range(times):
            often = chance.choice((0.2, 0.5, 0.8))
            found.append(web_with(count, [pair for pair in every_pair(count) if chance.random() < often]))
    return found


def small_webs(most):
    return [web for count in range(1, most + 1) for web in every_web(count)]


def rows_in(web):
    """Every four points in a row, each told both ways, by a look at all fours."""
    had = set(pairs_of(web))
    found = []
    for four in permutations(range(len(web)), 4):
        tied = [pair for pair in combinations(four, 2) if tuple(sorted(pair)) in had]
        if tied == [four[0:2], four[1:3], four[2:4]]:
            found.append(list(four))
    return found


def is_plain(web):
    return rows_in(web) == []


def renumbered(web, order):
    """The web whose point order[k] is this web's point k."""
    return web_with(len(web), [(order[one], order[other]) for one, other in pairs_of(web)])


def refused_alike(test, refusal, calls):
    for call in calls:
        with test.assertRaises(refusal) as caught:
            call()
        test.assertEqual(caught.exception.__class__, refusal)


ROW = [2, 5, 10, 4]
RING_OF_FOUR = web_with(4, [(0, 1), (1, 2), (2, 3), (3, 0)])
RING_OF_FIVE = web_with(5, [(k, (k + 1) % 5) for k in range(5)])
RING_OF_TEN = web_with(10, [(k, (k + 1) % 10) for k in range(10)])
NO_TIES = [0] * 10
ALL_TIES = web_with(10, every_pair(10))

BAD_WEBS = [
    None, "", "0", 0, 1, True, {}, {0: 0}, (), (0,), (2, 1), range(1),
    [], [0] * 11, [0] * 12, web_with(11, every_pair(11)),
    [-1], [-2, 1], [2, -1], [0, 0, -4],
    [1], [2], [4, 0], [6, 1], [0, 8, 0], [0] * 9 + [1 << 10],
    [1, 0], [0, 2], [3, 1], [2, 3], [6, 5, 7],
    [2, 0], [0, 1], [2, 5, 0], [0] * 9 + [1], [512] + [0] * 9,
] + [[wrong] for wrong in NO_NUMBERS] + [[2, wrong] for wrong in NO_NUMBERS]
