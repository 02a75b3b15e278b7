"""The refusals, all of them under WebError."""


class WebError(ValueError):
    """What every refusal of the program stands under."""


class BadWeb(WebError):
    """What was handed in is no web."""


class BadTree(WebError):
    """What was handed in is no tree, or no tree can be made of it."""


class NoPoint(WebError):
    """What was handed in is no list of different points of the web."""


class NotMade(WebError):
    """No tree tells the web: `four` lists four of its points that stand in a row."""

    def __init__(self, four):
        # Python keeps what an error is made of, unless the base is given something else: here words alone.
        WebError.__init__(self, "four points of the web stand in a row")
        self.four = list(four)


class BadText(WebError):
    """The text is no tree's: at `place` stands the first sign that isn't due."""

    def __init__(self, place):
        WebError.__init__(self, f"not a tree's text at place {place}")
        self.place = place
