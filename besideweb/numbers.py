"""Crowds, points apart, colours and covering crowds of a plain web, and how many there are."""

from besideweb.checks import has_points, is_below, tied
from besideweb.tellings import Answer, tree_of
from besideweb.trees import Across, Beside, Point
from besideweb.webs import turned


class Coloured(Answer):
    """The points of `crowd` are a crowd, and `colours` gives each point one of as many colours."""

    def __init__(self, crowd, colours):
        self.crowd = list(crowd)
        self.colours = list(colours)

    def is_so(self, web):
        """Whether it is a crowd, and each point has a colour in bounds that none tied to it has."""
        count = len(self.crowd)
        if not is_crowd(web, self.crowd) or len(self.colours) != len(web):
            return False
        if not all([is_below(colour, count) for colour in self.colours]):
            return False
        return all([is_apart(web, points) for points in by_colour(self.colours, count)])


class Covered(Answer):
    """The points of `apart` are apart, and `crowds`, as many, hold each point once."""

    def __init__(self, apart, crowds):
        self.apart = list(apart)
        self.crowds = [list(crowd) for crowd in crowds]

    def is_so(self, web):
        """Whether the points are apart, and the crowds are such, none empty, and hold each point once."""
        if not is_apart(web, self.apart) or len(self.crowds) != len(self.apart):
            return False
        if not all([len(crowd) > 0 and is_crowd(web, crowd) for crowd in self.crowds]):
            return False
        return sorted(joined(self.crowds)) == list(range(len(web)))


def coloured(web):
    """A Coloured of a greatest crowd, rising, and as few colours."""
    tree = tree_of(web)
    colours = [0 for point in web]
    give_colours(tree, 0, colours)
    return Coloured(sorted(crowd_of(tree)), colours)


def covered(web):
    """A Covered of the most points apart, rising, and as few crowds."""
    # Asked first, so that NotMade tells a row of this web and not of the turned one.
    tree_of(web)
    answer = coloured(turned(web))
    return Covered(answer.crowd, by_colour(answer.colours, len(answer.crowd)))


def crowds(web):
    """How many crowds there are, the empty one counted."""
    return crowds_within(tree_of(web))


def aparts(web):
    """How many sets of points apart there are, the empty one counted."""
    # Asked first, so that NotMade tells a row of this web and not of the turned one.
    tree_of(web)
    return crowds(turned(web))


def is_crowd(web, points):
    """Whether these are different points of the web, each two of them tied."""
    if not has_points(web, points):
        return False
    for place, point in enumerate(points):
        # No point is tied to itself, so one that stands twice fails here, too.
        if not all([tied(web, point, other) for other in points[:place]]):
            return False
    return True


def is_apart(web, points):
    """Whether these are different points of the web, no two of them tied."""
    return is_crowd(turned(web), points)


def by_colour(colours, count):
    """For each of so many colours the rising list of the points that have it."""
    found = []
    for wanted in range(count):
        found.append([point for point, colour in enumerate(colours) if colour == wanted])
    return found


def joined(lists):
    """One list of all that stands in the lists."""
    found = []
    for part in lists:
        found.extend(part)
    return found


def crowd_of(tree):
    """A greatest crowd of the tree's points."""
    if isinstance(tree, Point):
        return [tree.at]
    greatest = [crowd_of(inner) for inner in tree.trees]
    if isinstance(tree, Beside):
        return max(greatest, key=len)
    return joined(greatest)


def give_colours(tree, first, colours):
    """Set the colours of the tree's points, from the first on, as many as its greatest crowd has points."""
    if isinstance(tree, Point):
        colours[tree.at] = first
        return
    free = first
    for inner in tree.trees:
        give_colours(inner, free, colours)
        if isinstance(tree, Across):
            free = free + len(crowd_of(inner))


def crowds_within(tree):
    """How many crowds of the tree's points there are, the empty one counted."""
    if isinstance(tree, Point):
        return 2
    counts = [crowds_within(inner) for inner in tree.trees]
    if isinstance(tree, Beside):
        # Trees beside one another have the empty crowd in common and no other.
        return 1 + sum([count - 1 for count in counts])
    found = 1
    for count in counts:
        found = found * count
    return found
