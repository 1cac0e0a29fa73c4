"""The bodies of heights: all pairs of ratios that give to each ray at least the height's contrary."""

from rayround.heights import ask_height, slope_through
from rayround.pairs import crossed
from rayround.ratios import common_bottom, less, ratio, stretched
from rayround.rounds import ask_smooth, following


def edge(rays, height, at):
    """What the body has of the line of a ray, where it gives just the height's contrary: two ends, or []."""
    ray, behind = rays[at], following(rays, at)
    own = height[at]
    low = high = None
    for other, its in zip(rays, height):
        # The other ray is so many times the ray and `across` times the one behind it. So on the line
        # `across` times what the ray behind is given must be at least `asked`, both by the same bottom.
        across = crossed(ray, other)
        asked = crossed(other, behind) * own[0] * its[1] - its[0] * own[1]
        bottom = across * own[1] * its[1]
        if across == 0 and asked > 0:
            return []
        # Bounds are compared a great many times: `less` asks for bottoms above 0 alone, not for lowest terms.
        if across > 0 and (low is None or less(low, (asked, bottom))):
            low = (asked, bottom)
        if across < 0 and (high is None or less((-asked, -bottom), high)):
            high = (-asked, -bottom)
    # The ray behind has set a low bound, the ray ahead a high one.
    if less(high, low):
        return []
    return [slope_through([ray, behind], [(-own[0], own[1]), ratio(end[0], end[1])]) for end in (low, high)]


def in_order(points):
    """Pairs of ratios in order of the first, then of the second numbers."""
    bottom = common_bottom([part for point in points for part in point])
    return sorted(points, key=lambda point: (stretched(point[0], bottom), stretched(point[1], bottom)))


def body(rays, height):
    """The corners of the body of a height, each once, in order; [] where there is no body."""
    ask_smooth(rays)
    ask_height(rays, height)
    met = {}
    # A corner is an end of each of its edges, and an edge may be one point alone.
    for at in range(len(rays)):
        for point in edge(rays, height, at):
            met[point] = True
    return in_order(list(met))
