"""All refusals of the program. RingError takes each of them."""


class RingError(ValueError):
    pass


class NoText(RingError):
    pass


class NoPiece(RingError):
    pass
