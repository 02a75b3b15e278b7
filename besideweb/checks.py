"""What more than one module asks of numbers, webs and points."""

from besideweb.errors import BadWeb, NoPoint

MOST_POINTS = 10


def is_below(value, bound):
    """Whether value is a whole number from 0 to one below bound."""
    # Python counts True and False as whole numbers; here they are none.
    return isinstance(value, int) and not isinstance(value, bool) and 0 <= value < bound


def tied(web, one, other):
    """Whether the web ties the one point to the other."""
    return (web[one] >> other) & 1 == 1


def has_points(web, points):
    """Whether the web has each of these points."""
    return all([is_below(point, len(web)) for point in points])


def check_web(web):
    """Refuse what is no web with BadWeb."""
    if not isinstance(web, list) or not 1 <= len(web) <= MOST_POINTS:
        raise BadWeb("a web is a list of 1 to 10 numbers")
    for ties in web:
        if not is_below(ties, 1 << len(web)):
            raise BadWeb("a point's ties are a number with bits for the web's points alone")
    for point in range(len(web)):
        check_ties(web, point)


def check_ties(web, point):
    """Refuse a point tied to itself, or to one that isn't tied back, with BadWeb."""
    if tied(web, point, point):
        raise BadWeb(f"point {point} is tied to itself")
    for other in range(point):
        if tied(web, point, other) != tied(web, other, point):
            raise BadWeb(f"points {other} and {point} are tied one way only")


def check_points(web, points):
    """Refuse what is no list of different points of the web, or an empty one, with NoPoint."""
    if not isinstance(points, list) or len(points) == 0:
        raise NoPoint("the points are a list of one at least")
    if not has_points(web, points):
        raise NoPoint("the web has no such point")
    if len(set(points)) != len(points):
        raise NoPoint("a point stands twice")
