"""The refusals of the program."""


# Every refusal stands below this one, so that a caller can take them all by one name.
class DemandError(ValueError):
    pass


class NoText(DemandError):
    pass
