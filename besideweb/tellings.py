"""What is told of a web: the tree that makes it, or four points in a row; and its twins."""

from besideweb.checks import check_web, has_points, tied
from besideweb.errors import BadTree, NotMade
from besideweb.trees import Across, Beside, Point, web_of
from besideweb.webs import among, parts, turned


class Answer:
    """What can be told of a web, rightly or not; the classes under it say what."""

    def holds(self, web):
        """Whether it is as told of this web, plain or not."""
        check_web(web)
        return self.is_so(web)

    def is_so(self, web):
        """The same, of what is known to be a web."""
        # Answer itself tells nothing that could be so.
        return False


class Made(Answer):
    """The web is told by `tree`."""

    def __init__(self, tree):
        self.tree = tree

    def is_so(self, web):
        """Whether the tree, in whatever order and depth, tells the web."""
        try:
            return web_of(self.tree) == web
        except BadTree:
            return False


class Row(Answer):
    """The points of `four` are four that stand in a row."""

    def __init__(self, four):
        self.four = list(four)

    def is_so(self, web):
        """Whether there are four and each goes on from the row ahead of it."""
        if len(self.four) != 4 or not has_points(web, self.four):
            return False
        return all([goes_on(web, self.four[:place], point) for place, point in enumerate(self.four)])


def telling(web):
    """A Made of the tree that tells the web, or a Row where there is none."""
    check_web(web)
    four = row_in(web)
    if four is None:
        return Made(tree_among(web, list(range(len(web)))))
    return Row(four)


def tree_of(web):
    """The tree that tells the web; NotMade where there is none."""
    answer = telling(web)
    if isinstance(answer, Row):
        raise NotMade(answer.four)
    return answer.tree


def goes_on(web, row, point):
    """Whether of all the row's points this one is tied to the last alone."""
    return [other for other in row if tied(web, point, other)] == row[-1:]


def row_in(web):
    """Four points of the web that stand in a row, or None."""
    # A point may come back as the third, but no fourth goes on from there: it would be tied to the first, too.
    rows = [[]]
    for step in range(4):
        rows = longer_rows(web, rows)
    return rows[0] if len(rows) > 0 else None


def longer_rows(web, rows):
    """The rows, each with each point that goes on from it."""
    longer = []
    for row in rows:
        longer.extend([row + [point] for point in range(len(web)) if goes_on(web, row, point)])
    return longer


def tree_among(web, points):
    """The tree that tells the ties among these rising points of a plain web."""
    if len(points) == 1:
        return Point(points[0])
    alone = among(web, points)
    groups = parts(alone)
    if len(groups) > 1:
        return Beside(trees_among(web, points, groups))
    # Without four in a row, points that hang together don't all do so when they are turned.
    return Across(trees_among(web, points, parts(turned(alone))))


def trees_among(web, points, groups):
    """A tree for each group, a rising list of places among the points."""
    trees = []
    for group in groups:
        trees.append(tree_among(web, [points[place] for place in group]))
    return trees


def twins(web):
    """Pairs of a point that goes and its twin that stays, as far as there are twins among those left."""
    check_web(web)
    left = list(range(len(web)))
    pairs = []
    pair = twins_among(web, left)
    while pair is not None:
        pairs.append(pair)
        left.remove(pair[0])
        pair = twins_among(web, left)
    return pairs


def twins_among(web, points):
    """A pair of twins among these points, or None."""
    for place, goes in enumerate(points):
        for stays in points[:place]:
            if are_twins(web, points, goes, stays):
                return (goes, stays)
    return None


def are_twins(web, points, one, other):
    """Whether the two are tied to the same others of these points."""
    others = [point for point in points if point not in (one, other)]
    return all([tied(web, one, point) == tied(web, other, point) for point in others])
