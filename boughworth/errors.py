"""The refusals of the whole program."""


class BoughError(ValueError):
    pass


class NoText(BoughError):
    pass


class NoBook(BoughError):

    def __init__(self, fault):
        BoughError.__init__(self, fault)
        self.fault = fault


class Tangled(BoughError):

    def __init__(self, form):
        BoughError.__init__(self, form)
        self.form = form


class TooGreat(BoughError):
    pass


class NoPlace(BoughError):
    pass


class NoFit(BoughError):
    pass


class NoTree(BoughError):
    pass


class TooMany(BoughError):
    pass


class NoSpot(BoughError):
    pass


class NoGiven(BoughError):
    pass


class Ring(BoughError):

    def __init__(self, ring):
        # A copy, so that changing the list it was made of leaves the refusal as it is.
        own_ring = ring[:]
        BoughError.__init__(self, own_ring)
        self.ring = own_ring


class NoChange(BoughError):
    pass


class NoPlain(BoughError):
    pass


class NoBuild(BoughError):
    pass


class NoWorth(BoughError):
    pass


class NoPrice(BoughError):
    pass


class NoRow(BoughError):
    pass


class NoName(BoughError):
    pass
