"""Trees read from their texts."""

from besideweb.errors import BadText
from besideweb.trees import Across, Beside, Point

MOST_SIGNS = 100
FIGURES = "0123456789"


class Bracket:
    """An open bracket: the trees read in it so far, and the sign between them, none behind the first."""

    def __init__(self):
        self.inner = []
        self.between = ""

    def goes_on_with(self, sign):
        """Whether this sign is due between the tree just read and another one."""
        return sign in ("+", "*") and self.between in ("", sign)

    def closed(self):
        """The tree of the whole bracket."""
        return Beside(self.inner) if self.between == "+" else Across(self.inner)


class Reader:
    """What has been read of a text, sign by sign; `whole` is its tree, None till it is there."""

    def __init__(self):
        # The innermost bracket stands last.
        self.opened = []
        self.figures = ""
        self.due = True
        self.whole = None

    def take(self, sign):
        """Take the next sign, if it is due; whether it was."""
        return self.take_tree(sign) if self.due else self.take_behind(sign)

    def take_tree(self, sign):
        """Take a sign where a tree is due."""
        if sign == "(":
            self.opened.append(Bracket())
            return True
        if sign not in FIGURES or sign in self.figures:
            return False
        self.figures = self.figures + sign
        self.put(Point(int(sign)))
        return True

    def take_behind(self, sign):
        """Take a sign behind a tree."""
        if len(self.opened) == 0:
            return False
        bracket = self.opened[-1]
        if bracket.goes_on_with(sign):
            bracket.between = sign
            self.due = True
            return True
        if sign != ")" or bracket.between == "":
            return False
        self.opened.pop()
        self.put(bracket.closed())
        return True

    def put(self, tree):
        """Put a tree where it was due."""
        self.due = False
        if len(self.opened) == 0:
            self.whole = tree
        else:
            self.opened[-1].inner.append(tree)


def read(text):
    """The tree that the text tells."""
    if not isinstance(text, str):
        raise BadText(0)
    if len(text) > MOST_SIGNS:
        raise BadText(MOST_SIGNS)
    reader = Reader()
    for place, sign in enumerate(text):
        if not reader.take(sign):
            raise BadText(place)
    if reader.whole is None:
        raise BadText(len(text))
    return reader.whole
