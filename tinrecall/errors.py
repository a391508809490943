"""What the program refuses with."""


class RecallError(ValueError):
    """Stands above all refusals."""


class BadReading(RecallError):
    """A text that is no reading."""


class Taken(RecallError):
    """A mark, a name, a number or a tested tin that is there already."""


class NoBatch(RecallError):
    """A mark that no batch has."""


class NoTin(RecallError):
    """A tin that its batch hasn't."""


class Twice(RecallError):
    """A tin that would stand in parts twice."""


class NoPage(RecallError):
    """A number that no page has."""


class NoDeed(RecallError):
    """A deed that was never done, or is taken back."""


class NoTest(RecallError):
    """No test of a bad tin."""


class NoPacking(RecallError):
    """A name that no packing has."""


class NoCase(RecallError):
    """A case that its packing hasn't."""


class BadRow(RecallError):
    """A row of a sheet that is not written as rows are."""

    def __init__(self, row):
        RecallError.__init__(self, "a row is not so written")
        self.row = row
