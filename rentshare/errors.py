"""The refusals of the program."""


# Stands above all refusals, so that an asker can take them all by one name.
class RentError(ValueError):
    pass


class NoAmount(RentError):
    pass


class NoLine(RentError):
    def __init__(self, line):
        self.line = line


class TooFew(RentError):
    pass


class TooMany(RentError):
    pass
