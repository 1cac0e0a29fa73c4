"""The dots of heights: the pairs of whole numbers in their bodies."""

from rayround.bodies import body
from rayround.corners import bends_inwards
from rayround.errors import NoBend
from rayround.heights import crossing
from rayround.pairs import crossed, product
from rayround.ratios import common_bottom, plus, stretched


def width(points, ray):
    """How far apart the points lie, by what they give to a ray."""
    given = [product(point, ray) for point in points]
    return max(given) - min(given)


def lessened(wide, many, narrow):
    """A pair less so many times another one."""
    return (wide[0] - many * narrow[0], wide[1] - many * narrow[1])


def least_wide(points, wide, narrow):
    """Of all that is `wide` less some times `narrow` one by which the points are least wide."""
    # The widths go down and then up along these, and this many times off they are above that of `wide` itself.
    high = 2 * width(points, wide) // width(points, narrow) + 1
    low = -high
    while low < high:
        middle = (low + high) // 2
        here, onward = lessened(wide, middle, narrow), lessened(wide, middle + 1, narrow)
        if width(points, here) <= width(points, onward):
            high = middle
        else:
            low = middle + 1
    return lessened(wide, low, narrow)


def two_ways(points):
    """Two rays that cross in 1, of which the first is one by which the points are least wide."""
    narrow, wide = (1, 0), (0, 1)
    if width(points, wide) < width(points, narrow):
        narrow, wide = wide, narrow
    while width(points, narrow) > 0:
        wide = least_wide(points, wide, narrow)
        if width(points, wide) >= width(points, narrow):
            break
        narrow, wide = wide, narrow
    sign = crossed(narrow, wide)
    return (narrow, (sign * wide[0], sign * wide[1]))


def dots_across(rays, height, ways, given):
    """The dots that give a whole number to the first of two ways, by what they give to the second."""
    narrow, wide = ways
    low = high = None
    for ray, own in zip(rays, height):
        # The ray is so many times the one way and so many times the other, since both cross in 1.
        across = crossed(narrow, ray) * own[1]
        reach = own[0] + crossed(ray, wide) * given * own[1]
        if across > 0 and (low is None or -(reach // across) > low):
            low = -(reach // across)
        if across < 0 and (high is None or reach // -across < high):
            high = reach // -across
    # This m gives to both ways what it should.
    return [
        (given * wide[1] - other * narrow[1], other * narrow[0] - given * wide[0])
        for other in range(low, high + 1)
    ]


def dots(rays, height):
    """All dots of a height, by the second number, then by the first."""
    points = body(rays, height)
    bottom = common_bottom([part for point in points for part in point])
    wholes = [(stretched(x, bottom), stretched(y, bottom)) for x, y in points]
    if wholes == []:
        return []
    # A body may be long and thin, and lie askew: row by row along its least width there are few empty rows.
    ways = two_ways(wholes)
    given = [product(point, ways[0]) for point in wholes]
    found = []
    for row in range(-(-min(given) // bottom), max(given) // bottom + 1):
        found.extend(dots_across(rays, height, ways, row))
    return sorted(found, key=lambda dot: (dot[1], dot[0]))


def dots_by_crossing(rays, height):
    """How many dots a height has, told by crossings alone: of whole numbers that bend nowhere inwards, else NoBend."""
    if bends_inwards(rays, height) or common_bottom(height) != 1:
        raise NoBend("the height bends inwards, or is not of whole numbers")
    ones = [(1, 1) for ray in rays]
    both = plus(crossing(rays, height, height), crossing(rays, height, ones))
    # Both crossings together are even.
    return both[0] // 2 + 1
