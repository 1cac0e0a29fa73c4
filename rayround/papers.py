"""The checker: of any thing it tells whether it is a paper that stands."""

from rayround.errors import NoMinus, NoPlace
from rayround.heights import bends
from rayround.numbers import numbers
from rayround.pairs import crossed, is_pair, is_ray, is_turning, product, turned
from rayround.ratios import is_ratio, less, plus, times
from rayround.rounds import is_round, unspanned
from rayround.walks import taken_out
from rayround.wholes import is_whole


def is_smooth(thing):
    """Whether a thing is a smooth round."""
    return is_round(thing) and unspanned(thing) is None


def is_height(thing, rays):
    """Whether a thing is a height of a round."""
    return isinstance(thing, list) and len(thing) == len(rays) and all([is_ratio(own) for own in thing])


def walk_stands(rays, places, last):
    """Whether rays of number -1 are taken out of a smooth round at the places, and the last round is left."""
    if not is_smooth(rays) or not isinstance(places, list) or not is_round(last):
        return False
    left = rays
    for at in places:
        if not is_whole(at):
            return False
        try:
            left = taken_out(left, at)
        except (NoPlace, NoMinus):
            return False
    return left == last and len(last) <= 4


def turning_stands(one, other, turning):
    """Whether a turning leads the rays of one round to those of the other."""
    if not is_round(one) or not is_round(other) or not is_turning(turning):
        return False
    return sorted([turned(turning, ray) for ray in one]) == sorted(other)


def show_stands(show, ray, wedge):
    """Whether a pair gives 1 to a ray between, and from 1 on to each ray of its wedge."""
    return is_pair(show) and product(show, ray) == 1 and all([product(show, other) >= 1 for other in wedge])


def wedge_stands(u, v, rays, shows):
    """Whether rays between u and v part their wedge, neighbours crossing in 1, and each has its show."""
    if not is_ray(u) or not is_ray(v) or crossed(u, v) <= 0:
        return False
    if not isinstance(rays, list) or not isinstance(shows, list) or len(rays) != len(shows):
        return False
    if not all([is_ray(ray) for ray in rays]):
        return False
    wedge = [u] + rays + [v]
    if not all([crossed(ray, behind) == 1 for ray, behind in zip(wedge, wedge[1:])]):
        return False
    return all([show_stands(show, ray, wedge) for ray, show in zip(rays, shows)])


def crosses_below(rays, stuck):
    """Whether each mixture of the rays with a stuck height above 0, not all 0, crosses itself in less than 0."""
    marks = [less((0, 1), own) for own in stuck]
    if all(marks):
        # A slope is a mixture of all rays, and crosses itself in 0.
        return False
    start = marks.index(False)
    row = numbers(rays)
    ahead, here = 0, 1
    for at in list(range(start, len(rays))) + list(range(start)):
        # Neighbours alone cross one another, so stuck rays come in runs. Of a run's first rays the crossings'
        # contraries have this determinant, and all mixtures cross below 0 where all of these are above 0.
        ahead, here = (here, -row[at] * here - ahead) if marks[at] else (0, 1)
        if here <= 0:
            return False
    return True


def parting_stands(rays, height, first, stuck):
    """Whether a height of a smooth round is parted into a first part and a stuck one."""
    if not is_smooth(rays) or not all([is_height(thing, rays) for thing in (height, first, stuck)]):
        return False
    if [plus(part, rest) for part, rest in zip(first, stuck)] != height:
        return False
    for bend, rest in zip(bends(rays, first), stuck):
        if less(bend, (0, 1)) or less(rest, (0, 1)) or times(bend, rest) != (0, 1):
            return False
    return crosses_below(rays, stuck)


def none_stands(rays, height, weights):
    """Whether weights show that a height of a smooth round has no body."""
    if not is_smooth(rays) or not is_height(height, rays):
        return False
    if not isinstance(weights, list) or len(weights) != len(rays):
        return False
    if not all([is_whole(weight) and weight >= 0 for weight in weights]):
        return False
    x = sum([weight * ray[0] for weight, ray in zip(weights, rays)])
    y = sum([weight * ray[1] for weight, ray in zip(weights, rays)])
    total = (0, 1)
    for weight, own in zip(weights, height):
        total = plus(total, times((weight, 1), own))
    # Weights that are all 0 come to 0, not below it.
    return (x, y) == (0, 0) and less(total, (0, 1))


def stands(thing):
    """Whether a thing, any thing, is a paper that stands."""
    if not isinstance(thing, tuple) or len(thing) < 4:
        return False
    word, parts = thing[0], thing[1:]
    if word == "walk" and len(parts) == 3:
        return walk_stands(parts[0], parts[1], parts[2])
    if word == "turning" and len(parts) == 3:
        return turning_stands(parts[0], parts[1], parts[2])
    if word == "wedge" and len(parts) == 4:
        return wedge_stands(parts[0], parts[1], parts[2], parts[3])
    if word == "parting" and len(parts) == 4:
        return parting_stands(parts[0], parts[1], parts[2], parts[3])
    if word == "none" and len(parts) == 3:
        return none_stands(parts[0], parts[1], parts[2])
    return False
