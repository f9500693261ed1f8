"""Every refusal of the package: a class of its own each, all under one base and none under another."""


class LeafError(ValueError):
    pass


class NoColumns(LeafError):
    pass


class NoValue(LeafError):
    pass


class NoOrder(LeafError):
    pass


class NoRow(LeafError):
    pass


class NoMark(LeafError):
    pass


class NoSize(LeafError):
    pass


class NoLine(LeafError):
    pass


class NoBook(LeafError):
    pass


class NoSieve(LeafError):
    def __init__(self, at):
        LeafError.__init__(self, f"not as a sieve has it: word {at}")
        self.at = at


class NoPage(LeafError):
    def __init__(self, at):
        LeafError.__init__(self, f"not as a page has it: text {at}")
        self.at = at


class Twice(LeafError):
    def __init__(self, row):
        LeafError.__init__(self, f"there is a row already: {row}")
        self.row = row


class Absent(LeafError):
    def __init__(self, row):
        LeafError.__init__(self, f"there is no row: {row}")
        self.row = row


class Gone(LeafError):
    def __init__(self, known):
        LeafError.__init__(self, f"let go, the oldest moment known is {known}")
        self.known = known


class Later(LeafError):
    def __init__(self, now):
        LeafError.__init__(self, f"not yet, the moment now is {now}")
        self.now = now
