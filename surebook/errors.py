"""The refusals of the program, each under a name of its own."""


class SureError(ValueError):
    pass


class NoRatio(SureError):
    pass


class NoFair(SureError):
    def __init__(self, multiples):
        SureError.__init__(self, "the book is beaten")
        # A copy, so that what is done to the handed list later is not seen here.
        self.multiples = list(multiples)


class NoChance(SureError):
    def __init__(self, multiples):
        SureError.__init__(self, "no fitting weights give the event a share above nought")
        # A copy, for the same reason as in NoFair.
        self.multiples = list(multiples)


class NoText(SureError):
    def __init__(self, at):
        SureError.__init__(self, f"row {at} of the text is bad")
        self.at = at


class NoRow(SureError):
    pass


class NoName(SureError):
    pass
