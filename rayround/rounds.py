"""Rounds: lists of rays that go once round the plane, and the smooth ones among them."""

from rayround.errors import NoRound, NotSmooth
from rayround.pairs import crossed, is_ray


def following(things, at):
    """What stands behind a place of a list that is gone round: behind the last one the first."""
    return things[(at + 1) % len(things)]


def met_direction(ray, behind):
    """Whether (1, 0) is the direction of the ray, or lies within its wedge with the ray behind."""
    # The end of a wedge is left out: it is the beginning of the next wedge, and would count twice.
    return ray == (1, 0) or ray[1] < 0 < behind[1]


def look_round(thing):
    """None of a round; any other thing is refused with NoRound, by its first fault."""
    if not isinstance(thing, list) or len(thing) < 3:
        raise NoRound("round", 0)
    for at, ray in enumerate(thing):
        if not is_ray(ray):
            raise NoRound("ray", at)
    for at, ray in enumerate(thing):
        if crossed(ray, following(thing, at)) <= 0:
            raise NoRound("wedge", at)
    # Each wedge turns on by less than half a round, so the direction is met once for each time round.
    if len([at for at, ray in enumerate(thing) if met_direction(ray, following(thing, at))]) > 1:
        raise NoRound("turns", 0)


def is_round(thing):
    """Whether a thing, any thing, is a round."""
    try:
        look_round(thing)
    except NoRound:
        return False
    return True


def unspanned(rays):
    """None of a smooth round, else the number of the first ray that does not cross the next one in 1."""
    for at, ray in enumerate(rays):
        if crossed(ray, following(rays, at)) != 1:
            return at
    return None


def ask_smooth(rays):
    """Refuse a round that is not smooth with NotSmooth."""
    at = unspanned(rays)
    if at is not None:
        raise NotSmooth(f"ray {at} does not cross the next one in 1")
