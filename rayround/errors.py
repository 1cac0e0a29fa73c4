"""The refusals of the program, each a class of its own straight under RayError."""


class RayError(ValueError):
    """Any refusal."""


class NoRatio(RayError):
    """Two things of which no ratio is made."""


class NoTurning(RayError):
    """Pairs that no turning leads to one another, since they do not span."""


class NoRound(RayError):
    """A thing that is no round: where it fails, and at which number."""

    def __init__(self, where, at):
        RayError.__init__(self, f"no round: {where} {at}")
        self.where = where
        self.at = at


class NotSmooth(RayError):
    """A round that is not smooth, where a smooth one is asked for."""


class NoWedge(RayError):
    """Two rays that are no wedge, or a ratio that belongs to none."""


class NoRow(RayError):
    """A row of numbers that does not close once, or a row that the desk does not know."""


class NoPlace(RayError):
    """A whole number that is no place of a round."""


class NoMinus(RayError):
    """A ray that can't be taken out."""


class NoFour(RayError):
    """A round that has not four rays, where its slant is asked for."""


class NoHeight(RayError):
    """A list that is no height of its round."""


class NoBend(RayError):
    """A height that bends inwards, or is not whole, where that is asked for."""


class NoBody(RayError):
    """A height without a body."""


class NoOne(RayError):
    """A smooth round with a number below -2."""


class NoText(RayError):
    """A thing that is not written as the texts are."""


class Unknown(RayError):
    """A name that stands for nothing at the desk."""
