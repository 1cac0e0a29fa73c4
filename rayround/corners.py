"""The corners of heights that bend nowhere inwards, and the heights of points."""

from rayround.errors import NoBend
from rayround.heights import bends, sloped, slope_through
from rayround.ratios import greatest, less, minus
from rayround.rounds import ask_smooth, following


def bends_inwards(rays, height):
    """Whether some bend of a height is below 0."""
    return any([less(bend, (0, 1)) for bend in bends(rays, height)])


def contrary(one):
    """0 less a ratio."""
    return minus((0, 1), one)


def corners(rays, height):
    """The corner of each ray: the m that gives to it and to the next one their heights' contraries; or NoBend."""
    if bends_inwards(rays, height):
        raise NoBend("the height bends inwards")
    told = []
    for at, ray in enumerate(rays):
        both = [contrary(height[at]), contrary(following(height, at))]
        told.append(slope_through([ray, following(rays, at)], both))
    return told


def height_of(rays, points):
    """The height of pairs of ratios, one at least: for each ray the greatest of 0 - m . ray."""
    ask_smooth(rays)
    return [greatest([contrary(sloped(m, ray)) for m in points]) for ray in rays]
