"""The refusals of the program, one class for each of them."""


class HandError(ValueError):
    pass


class NoWheel(HandError):
    pass


class NoBeats(HandError):
    pass


class NoPlace(HandError):
    pass
