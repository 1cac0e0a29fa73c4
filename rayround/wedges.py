"""Wedges: the rays between two rays, their rows of numbers, and why each ray between is needed."""

from rayround.errors import NoWedge
from rayround.pairs import crossed


def partner(ray):
    """A pair that the ray comes to 1 with, when crossed."""
    # The ray crossed with `first` always comes to `high`, with `second` to `low`.
    high, low = ray
    first, second = (0, 1), (-1, 0)
    while low != 0:
        many = high // low
        high, low = low, high - many * low
        first, second = second, (first[0] - many * second[0], first[1] - many * second[1])
    # What divides both numbers of a ray is 1, but it may come out as -1.
    return (high * first[0], high * first[1])


def first_behind(u, v):
    """The ray that stands behind u when the wedge of u and v is parted: v itself where both cross in 1."""
    w = partner(u)
    # However often u is taken from w, it still crosses u in 1; this often it comes as near to v as it can
    # without going beyond it.
    many = crossed(w, v) // crossed(u, v)
    return (w[0] - many * u[0], w[1] - many * u[1])


def expanded(top, bottom):
    """The row of top / bottom; [] where the bottom is 0."""
    numbers = []
    while bottom != 0:
        number = -(-top // bottom)
        numbers.append(number)
        top, bottom = bottom, number * bottom - top
    return numbers


def row(u, v):
    """The row of a wedge: for each ray between, how often it is the sum of its neighbours."""
    if crossed(u, v) <= 0:
        raise NoWedge("the two rays of a wedge, crossed, come to more than 0")
    return expanded(crossed(u, v), crossed(first_behind(u, v), v))


def between(u, v):
    """The rays that are put between the two rays of a wedge, in order from u to v."""
    numbers = row(u, v)
    rays = []
    ahead, ray = u, first_behind(u, v)
    for number in numbers:
        rays.append(ray)
        ahead, ray = ray, (number * ray[0] - ahead[0], number * ray[1] - ahead[1])
    return rays


def fraction(numbers):
    """The fraction a1 - 1 / (a2 - 1 / (.. - 1 / ar)) of a row that is not [], as a ratio."""
    # Neighbours in this walk have no common part, and the bottom stays above 0, so it is a ratio as it stands.
    top, bottom = 1, 0
    for number in reversed(numbers):
        top, bottom = number * top - bottom, top
    return (top, bottom)


def row_of(ratio):
    """The row with this fraction; a ratio that is not above 1 is refused with NoWedge."""
    top, bottom = ratio
    if top <= bottom:
        raise NoWedge("the fraction of a row is above 1")
    return expanded(top, bottom)


def opposite(numbers):
    """The row of n / (n - q), where n / q is the fraction of the row; of [] it is []."""
    if numbers == []:
        return []
    top, bottom = fraction(numbers)
    return expanded(top, top - bottom)


def shows(u, v):
    """For each ray between u and v, in order, a pair that shows that it can't be left out."""
    rays = between(u, v) + [v]
    told = []
    for ray, behind in zip(rays, rays[1:]):
        # This pair gives 1 to the ray and to the one behind it. From these two on the rays to either side
        # have as much or more, since the numbers of the row are from 2 on.
        told.append((behind[1] - ray[1], ray[0] - behind[0]))
    return told
