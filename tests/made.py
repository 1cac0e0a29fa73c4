"""Rounds that several tests hand in, made without the program's own modules."""

import math
import random

THREE = [(1, 0), (0, 1), (-1, -1)]
TURNINGS = [
    ((1, 0), (0, 1)), ((0, 1), (1, 0)), ((0, -1), (1, 0)), ((1, 0), (0, -1)), ((-1, 0), (0, -1)),
    ((1, 3), (0, 1)), ((2, 3), (5, 7)), ((2, 1), (5, 3)), ((-3, 7), (1, -2)), ((4, -1), (-3, 1)),
]


def cross(one, other):
    return one[0] * other[1] - one[1] * other[0]


def determinant(turning):
    return cross(turning[0], turning[1])


def led(turning, rays):
    """The rays where a turning leads them, in their order."""
    (a, b), (c, d) = turning
    return [(a * x + b * y, c * x + d * y) for x, y in rays]


def led_round(turning, rays):
    """The round where a turning leads a round: backwards where the turning changes the sides."""
    told = led(turning, rays)
    return told if determinant(turning) == 1 else told[::-1]


def begun(things, at):
    """A list that is gone round, begun at another place."""
    return things[at:] + things[:at]


def slanted(s):
    return [(1, 0), (0, 1), (-1, s), (0, -1)]


def with_one_more(rays, at):
    """The round with the ray at a place and the next one together behind that place."""
    ray, behind = rays[at], rays[(at + 1) % len(rays)]
    return rays[:at + 1] + [(ray[0] + behind[0], ray[1] + behind[1])] + rays[at + 1:]


def grown(rays, many, seed):
    """The round with so many rays put in, at places that the seed tells."""
    dice = random.Random(seed)
    for _ in range(many):
        rays = with_one_more(rays, dice.randrange(len(rays)))
    return rays


def far_ray(dice, high):
    while True:
        ray = (dice.randint(-high, high), dice.randint(-high, high))
        if math.gcd(ray[0], ray[1]) == 1:
            return ray


def some_round(many, high, seed):
    """A round of so many rays with numbers to the high one either way, begun anywhere."""
    dice = random.Random(f"{many} {high} {seed}")
    while True:
        rays = sorted({far_ray(dice, high) for _ in range(many)}, key=lambda ray: math.atan2(ray[1], ray[0]))
        if len(rays) == many and all(cross(ray, rays[at - many + 1]) > 0 for at, ray in enumerate(rays)):
            return begun(rays, dice.randrange(many))


SMALL_SMOOTH = [THREE, THREE[1:] + THREE[:1], [(2, 5), (3, 8), (-5, -13)]] + [
    begun(slanted(s), at) for s in (-4, -1, 0, 1, 2, 7, 200) for at in range(4)
]
GROWN = [grown(start, many, many) for start in (THREE, slanted(0), slanted(3), slanted(-2)) for many in range(1, 9)]
LONG = [grown(THREE, 20, "twenty"), grown(slanted(5), 20, "more"), grown(slanted(0), 56, "sixty")]
LED = [led_round(turning, rays) for turning in TURNINGS for rays in (slanted(2), grown(THREE, 6, 1), GROWN[-1])]
SMOOTH = SMALL_SMOOTH + GROWN + LONG + LED

ROUGH = [
    [(1, 0), (-1, 2), (0, -1)], [(2, 1), (-1, 1), (-1, -2)], [(1, 0), (0, 1), (-1, -2)], [(1, 0), (-1, 3), (-1, -3)],
    [(1, 1), (-1, 1), (-1, -1), (1, -1)], [(1, 0), (0, 1), (-2, -1), (0, -1)], [(0, 1), (-5, 2), (3, -7)],
] + [some_round(many, high, 0) for many in range(3, 15) for high in (9, 40)]
FAR = [some_round(many, 200, seed) for many in range(3, 15) for seed in (1, 2)]
EDGE = [
    [(200, 199), (-199, 200), (-1, -200), (200, -1)], [(1, 200), (-200, 1), (199, -200)],
    [(1, -1), (199, 200), (-200, -1)],
]
EVERY = SMOOTH + ROUGH + FAR + EDGE
NOT_SMOOTH = [
    rays for rays in ROUGH + FAR + EDGE
    if any(cross(ray, rays[at + 1 - len(rays)]) != 1 for at, ray in enumerate(rays))
]
