"""The least smooth round that parts a round."""

from rayround.rounds import following
from rayround.wedges import between


def least_round(rays):
    """The rays of a round and, behind each, those between it and the next one."""
    least = []
    for at, ray in enumerate(rays):
        least.append(ray)
        least.extend(between(ray, following(rays, at)))
    return least
