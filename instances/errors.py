"""The errors of the package: one base class, and all others straight under it."""


class TemplateError(ValueError):
    """What all errors of the package are."""


class InvalidSignature(TemplateError):
    """What was given is no signature."""

    def __init__(self, given):
        self.given = given


class InvalidKind(TemplateError):
    """What was given is no kind, or no kinds, of the signature."""

    def __init__(self, given):
        self.given = given


class InvalidPatterns(TemplateError):
    """What was given is no patterns for the kinds."""

    def __init__(self, given):
        self.given = given


class InvalidNumber(TemplateError):
    """What was given is no number that may stand there."""

    def __init__(self, given):
        self.given = given


class InvalidTable(TemplateError):
    """What was given is no table."""

    def __init__(self, given):
        self.given = given


class InvalidName(TemplateError):
    """What was given is no name of a definition of the table."""

    def __init__(self, given):
        self.given = given


class InvalidUse(TemplateError):
    """What was given is no use of the table."""

    def __init__(self, given):
        self.given = given


class InvalidProgram(TemplateError):
    """What was given is no program."""

    def __init__(self, given):
        self.given = given


class Unformed(TemplateError):
    """The definition that is given has an inner use that stays and is not of the told form."""

    def __init__(self, given):
        self.given = given


class Unsound(TemplateError):
    """The definition that is given is not sound."""

    def __init__(self, given):
        self.given = given


class NoValue(TemplateError):
    """There is no value; what the run tells is given."""

    def __init__(self, given):
        self.given = given


class InvalidTerms(TemplateError):
    """The term at the index is wrong; None for no tuple of as many."""

    def __init__(self, index):
        self.index = index


class InvalidRows(TemplateError):
    """The row at the index is wrong; None for no tuple of the told form."""

    def __init__(self, index):
        self.index = index


class InvalidText(TemplateError):
    """The text is refused at the index, a row and a word; None for no text."""

    def __init__(self, index):
        self.index = index


class InvalidLines(TemplateError):
    """The line at the index is no text; None for no tuple of the told form, or one line."""

    def __init__(self, index):
        self.index = index


class BadLabel(TemplateError):
    """The label is refused at the spot; None for no text."""

    def __init__(self, spot):
        self.spot = spot
