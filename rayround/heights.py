"""Heights on the rays of smooth rounds: their bends, how they cross, slopes and folds."""

from rayround.errors import NoHeight
from rayround.numbers import numbers
from rayround.ratios import minus, plus, times
from rayround.rounds import ask_smooth, following


def ask_height(rays, height):
    """Refuse a list of another length than the round with NoHeight."""
    if len(height) != len(rays):
        raise NoHeight(f"a height of {len(rays)} rays has not {len(height)} ratios")


def bends(rays, height):
    """The bend of a height at each ray: the heights ahead and behind, and the number times its own, together."""
    row = numbers(rays)
    ask_height(rays, height)
    told = []
    for at, own in enumerate(height):
        beside = plus(height[at - 1], following(height, at))
        told.append(plus(beside, times((row[at], 1), own)))
    return told


def crossing(rays, one, other):
    """The crossing of two heights: the sum of the one's heights times the other's bends."""
    bent = bends(rays, other)
    ask_height(rays, one)
    total = (0, 1)
    for own, bend in zip(one, bent):
        total = plus(total, times(own, bend))
    return total


def crossings(rays):
    """The crossings of the rays among themselves, a list of whole numbers for each ray."""
    row = numbers(rays)
    many = len(rays)
    table = []
    for at, number in enumerate(row):
        line = [0] * many
        line[at] = number
        # Three rays at least: the ray ahead and the ray behind are two.
        line[at - 1] = 1
        line[(at + 1) % many] = 1
        table.append(line)
    return table


def sloped(m, ray):
    """A pair of ratios times a ray, m . ray."""
    return plus(times(m[0], (ray[0], 1)), times(m[1], (ray[1], 1)))


def slope_through(rays, height):
    """The m that gives to the first ray and to the second their heights."""
    (a, b), (c, d) = rays[0], rays[1]
    first, second = height[0], height[1]
    # Both rays cross in 1, so nothing is divided here.
    return (
        minus(times(first, (d, 1)), times(second, (b, 1))),
        minus(times(second, (a, 1)), times(first, (c, 1))),
    )


def slope(rays, one, other):
    """The m of which the second height less the first is the slope, or None where it is no slope."""
    ask_smooth(rays)
    ask_height(rays, one)
    ask_height(rays, other)
    lack = [minus(high, low) for low, high in zip(one, other)]
    m = slope_through(rays, lack)
    return m if lack == [sloped(m, ray) for ray in rays] else None


def plain(rays, height):
    """The height alike to a height that is 0 at the first ray and at the second."""
    ask_smooth(rays)
    ask_height(rays, height)
    m = slope_through(rays, height)
    return [minus(own, sloped(m, ray)) for own, ray in zip(height, rays)]


def fold(height, k):
    """The height k times."""
    return [times((k, 1), own) for own in height]
