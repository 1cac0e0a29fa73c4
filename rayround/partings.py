"""Heights parted into a first part that bends nowhere inwards and a stuck one, and bounds for their dots."""

from rayround.bodies import body
from rayround.corners import contrary, height_of
from rayround.errors import NoBody
from rayround.heights import crossing
from rayround.pairs import crossed
from rayround.ratios import common_bottom, greatest, minus, plus, stretched, times


def balance(rays, three):
    """How often three rays come to (0, 0) together, for each of them: numbers from 0 on, or None."""
    one, two, last = [rays[at] for at in three]
    often = [crossed(two, last), crossed(last, one), crossed(one, two)]
    return often if min(often) >= 0 else None


def threes(many):
    """All three places of a list, in order."""
    return [(i, j, k) for i in range(many) for j in range(i + 1, many) for k in range(j + 1, many)]


def emptying(rays, height):
    """Weights of the rays that come to (0, 0), by which the heights come below 0; None where there is a body."""
    bottom = common_bottom(height)
    wholes = [stretched(own, bottom) for own in height]
    # Where all have nothing in common, some three have nothing in common; two opposite rays count with any third.
    for three in threes(len(rays)):
        often = balance(rays, three)
        if often is not None and sum([many * wholes[at] for many, at in zip(often, three)]) < 0:
            weights = [0 for ray in rays]
            for many, at in zip(often, three):
                weights[at] = many
            return weights
    return None


def parting(rays, height):
    """("parted", first, stuck) of a height with a body, else ("none", weights)."""
    points = body(rays, height)
    if points == []:
        return ("none", emptying(rays, height))
    first = height_of(rays, points)
    return ("parted", first, [minus(own, part) for own, part in zip(height, first)])


def spread(ones):
    """The greatest less the least of a list of ratios."""
    return plus(greatest(ones), greatest([contrary(one) for one in ones]))


def bounds(rays, height, k):
    """Two ratios between which the number of dots of a fold lies; NoBody where there is no body."""
    points = body(rays, height)
    if points == []:
        raise NoBody("the height has no body")
    first = height_of(rays, points)
    middle = times((k * k, 2), crossing(rays, first, first))
    wide = plus(spread([x for x, y in points]), spread([y for x, y in points]))
    about = plus((1, 1), times((k, 1), wide))
    return (minus(middle, about), plus(middle, about))
