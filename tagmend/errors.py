"""The refusals: each has a class of its own, straight under TagError.

Their words never hold a number that was handed in: Python writes out none of more than some thousand digits.
"""


class TagError(ValueError):
    pass


class NoText(TagError):
    def __init__(self, row):
        TagError.__init__(self, f"row {row} does not have the form of a book's row")
        self.row = row


class NoBook(TagError):
    def __init__(self, row):
        TagError.__init__(self, f"row {row} does not fit into a book with the other rows")
        self.row = row


class NoPlace(TagError):
    pass


class NoSpot(TagError):
    pass


class Ended(TagError):
    pass


class NotEnded(TagError):
    pass


class NoFit(TagError):
    def __init__(self, rule, place):
        TagError.__init__(self, f"the tree would have the fault {rule} at {place!r}")
        self.rule = rule
        self.place = place
