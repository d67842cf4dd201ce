"""The refusals. No number stands in their words: numbers may have any size, and few can be written out."""


class SayError(ValueError):
    """Any refusal."""


class BadRule(SayError):
    """No rule can be made of this."""


class NotCovered(SayError):
    """The rule does not cover the number."""


class BadParts(SayError):
    """The parts are not those of the rule."""


class BadBound(SayError):
    """No tongue can have this bound."""


class BadMelt(SayError):
    """This is no melt."""


class Twice(SayError):
    """Two kinds of a tongue have one title, told in the field title."""

    def __init__(self, title=""):
        super().__init__("two kinds have the same title")
        self.title = title


class BadRow(SayError):
    """This list of texts is no row."""


class BadKind(SayError):
    """No kind can be made of this."""


class NoKind(SayError):
    """The tongue has no kind of this title."""


class NoName(SayError):
    """No number has this name."""


class Unclear(SayError):
    """Two or more numbers have this name."""


class BadPairs(SayError):
    """Words cannot be exchanged by these pairs."""


class BadText(SayError):
    """No tongue can be read from this text; the field row tells which row is wrong."""

    def __init__(self, row):
        super().__init__("a row is wrong")
        self.row = row
