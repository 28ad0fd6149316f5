"""The refusals of the program."""


class PactError(ValueError):
    pass


class NoText(PactError):
    pass


class NoPact(PactError):
    pass
