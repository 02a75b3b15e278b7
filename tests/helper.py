"""What several test files need: webs from pairs, every small web, trees from plain tuples."""

from itertools import combinations

from besideweb.trees import Across, Beside, Point

NO_NUMBERS = [True, False, "1", "", None, [], (), {}, 1.0]


def web_with(count, pairs):
    web = [0] * count
    for one, other in pairs:
        web[one] |= 1 << other
        web[other] |= 1 << one
    return web


def every_pair(count):
    return list(combinations(range(count), 2))


def every_web(count):
    pairs = every_pair(count)
    for chosen in range(1 << len(pairs)):
        yield web_with(count, [pair for k, pair in enumerate(pairs) if chosen >> k & 1])


def pairs_of(web):
    """The tied pairs, read off the numbers' binary figures."""
    rows = [format(ties, "b").rjust(len(web), "0")[::-1] for ties in web]
    return [(one, other) for one, other in every_pair(len(web)) if rows[one][other] == "1"]


def tree_from(plan):
    """A tree from a point's number or a tuple of a sign and further plans."""
    if not isinstance(plan, tuple):
        return Point(plan)
    made = [tree_from(inner) for inner in plan[1:]]
    return Beside(made) if plan[0] == "+" else Across(made)


def plan_points(plan):
    if not isinstance(plan, tuple):
        return [plan]
    return [point for inner in plan[1:] for point in plan_points(inner)]


def plan_pairs(plan):
    """The tied pairs of a plan: two points are tied where the doing that parts them is across."""
    if not isinstance(plan, tuple):
        return []
    found = [pair for inner in plan[1:] for pair in plan_pairs(inner)]
    if plan[0] == "*":
        for left, right in combinations(plan[1:], 2):
            found += [(one, other) for one in plan_points(left) for other in plan_points(right)]
    return found


def groupings(points):
    """Every way to cut a tuple of points into groups that stand in some order, each point in one."""
    if not points:
        yield []
        return
    first, rest = points[0], points[1:]
    for others in groupings(rest):
        for k in range(len(others) + 1):
            yield others[:k] + [(first,)] + others[k:]
        for k in range(len(others)):
            yield others[:k] + [(first,) + others[k]] + others[k + 1:]


def every_plan(points):
    """The plan of every tree of these points."""
    if len(points) == 1:
        yield points[0]
        return
    for groups in groupings(points):
        if len(groups) > 1:
            for inner in every_choice(groups):
                yield ("+",) + inner
                yield ("*",) + inner


def every_choice(groups):
    if not groups:
        yield ()
        return
    for first in every_plan(groups[0]):
        for rest in every_choice(groups[1:]):
            yield (first,) + rest
