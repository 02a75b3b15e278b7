"""Trees: a point, trees beside one another, trees tied across; and the web that a tree tells."""

from besideweb.checks import MOST_POINTS, is_below
from besideweb.errors import BadTree


class Tree:
    """A Point, a Beside or an Across; none is made of Tree itself."""

    def __init__(self, given=None):
        raise BadTree("a tree is made as Point, Beside or Across")

    def points(self):
        """A list of the tree's points, in its order."""
        raise BadTree("Tree itself has no points")

    def told(self):
        """The tree's text."""
        raise BadTree("Tree itself has no text")

    def shape(self):
        """The tree's text without its points' numbers and their order."""
        raise BadTree("Tree itself has no shape")


class Point(Tree):
    """The tree of one point, `at`, a number from 0 to 9."""

    def __init__(self, at):
        if not is_below(at, MOST_POINTS):
            raise BadTree("a point is a number from 0 to 9")
        self.at = at

    def points(self):
        """The point alone, in a list."""
        return [self.at]

    def told(self):
        """The point's figure."""
        return str(self.at)

    def shape(self):
        """An `o`, whatever the point."""
        return "o"


class Doing(Tree):
    """A Beside or an Across of `trees`; none is made of Doing itself."""

    def __init__(self, trees=None):
        raise BadTree("a doing is made as Beside or Across")

    def lay(self, trees):
        """Take the trees, or refuse them with BadTree."""
        check_trees(trees)
        self.trees = list(trees)
        # The list above is the asker's to change: what the tree tells rests on these, which stay.
        self.laid = tuple(trees)

    def sign(self):
        """What stands between the trees in a text."""
        raise BadTree("Doing itself has no sign")

    def points(self):
        """The points of the trees, one tree behind the other."""
        found = []
        for tree in self.laid:
            found.extend(tree.points())
        return found

    def told(self):
        """The trees' texts in their order, in brackets."""
        return bracketed([tree.told() for tree in self.laid], self.sign())

    def shape(self):
        """The trees' shapes in the order of texts, in brackets."""
        return bracketed(sorted([tree.shape() for tree in self.laid]), self.sign())


class Beside(Doing):
    """Two trees or more without ties between them."""

    def __init__(self, trees):
        self.lay(trees)

    def sign(self):
        """The sign of beside."""
        return "+"


class Across(Doing):
    """Two trees or more, each point of one tied to each point of the others."""

    def __init__(self, trees):
        self.lay(trees)

    def sign(self):
        """The sign of across."""
        return "*"


def bracketed(texts, sign):
    """The texts with the sign between, in round brackets."""
    inner = sign.join(texts)
    return f"({inner})"


def check_trees(trees):
    """Refuse what is no list of two trees or more, without a point in common, with BadTree."""
    if not isinstance(trees, list) or len(trees) < 2:
        raise BadTree("a doing is made of a list of two trees or more")
    points = []
    for tree in trees:
        if not isinstance(tree, Tree):
            raise BadTree("a doing is made of trees alone")
        points.extend(tree.points())
    if len(set(points)) != len(points):
        raise BadTree("the trees have a point in common")


def web_of(tree):
    """The web that the tree tells."""
    if not isinstance(tree, Tree):
        raise BadTree("only a tree tells a web")
    points = tree.points()
    if sorted(points) != list(range(len(points))):
        raise BadTree("the tree's points aren't 0 to one below their count")
    web = [0 for point in points]
    tie_within(tree, web)
    return web


def tie_within(tree, web):
    """Set the ties between the tree's own points in the web."""
    if isinstance(tree, Doing):
        for inner in tree.laid:
            tie_within(inner, web)
        if isinstance(tree, Across):
            tie_across(tree, web)


def tie_across(tree, web):
    """Tie each point of one of the tree's trees to each point of its others in the web."""
    every = bits_of(tree.points())
    for inner in tree.laid:
        own = inner.points()
        others = every ^ bits_of(own)
        for point in own:
            web[point] = web[point] | others


def bits_of(points):
    """The number with a bit for each of these points."""
    return sum([1 << point for point in points])
