"""Webs: turned, of some points alone, and in parts."""

from besideweb.checks import check_points, check_web, tied


def turned(web):
    """The web with ties just where this one has none."""
    check_web(web)
    every = (1 << len(web)) - 1
    return [every ^ ties ^ (1 << point) for point, ties in enumerate(web)]


def among(web, points):
    """The web of these points alone, numbered in the order in which they are told."""
    check_web(web)
    check_points(web, points)
    return [ties_among(web, point, points) for point in points]


def ties_among(web, point, points):
    """The number of the point's ties to these points, with a bit for each one's place among them."""
    ties = 0
    for place, other in enumerate(points):
        if tied(web, point, other):
            ties = ties | (1 << place)
    return ties


def parts(web):
    """The rising lists of the points that hang together, by their least points."""
    check_web(web)
    found = []
    for point in range(len(web)):
        part = hanging_with(web, point)
        if part[0] == point:
            found.append(part)
    return found


def hanging_with(web, start):
    """The rising list of the points that ties lead to from start, itself among them."""
    reached = {start: True}
    waiting = [start]
    while len(waiting) > 0:
        point = waiting.pop()
        for other in range(len(web)):
            if tied(web, point, other) and other not in reached:
                reached[other] = True
                waiting.append(other)
    return sorted(reached)
