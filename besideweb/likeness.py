"""The shape of a plain web, and webs that are the same but for their points' numbers."""

from besideweb.checks import check_web
from besideweb.tellings import tree_of
from besideweb.trees import Point


def shape_of(web):
    """The shape of the tree that tells the web."""
    return tree_of(web).shape()


def same(one, other):
    """For each point of the one a point of the other, so that just those are tied that were; None if there is none."""
    check_web(one)
    check_web(other)
    tree = tree_of(one)
    like = tree_of(other)
    if tree.shape() != like.shape():
        return None
    found = [0 for point in one]
    for point, image in zip(points_by_shape(tree), points_by_shape(like)):
        found[point] = image
    return found


def points_by_shape(tree):
    """The tree's points, at each doing its trees taken in the order of their shapes."""
    if isinstance(tree, Point):
        return [tree.at]
    points = []
    for inner in sorted(tree.trees, key=lambda each: each.shape()):
        points.extend(points_by_shape(inner))
    return points
