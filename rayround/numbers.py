"""The numbers of smooth rounds, and the rows of numbers that close."""

from rayround.errors import NoRow
from rayround.pairs import crossed
from rayround.rounds import ask_smooth, following


def numbers(rays):
    """The numbers of the rays of a smooth round, in order; else NotSmooth."""
    ask_smooth(rays)
    # The neighbours come to 0 - b times the ray together, and the one ahead crosses the ray in 1:
    # so the one ahead crosses the one behind in 0 - b, and the other way about in b.
    return [crossed(following(rays, at), rays[at - 1]) for at in range(len(rays))]


def gone_through(numbers):
    """The pairs that a row leads through: (1, 0), (0, 1), and one more for each number."""
    pairs = [(1, 0), (0, 1)]
    for number in numbers:
        ahead, pair = pairs[-2], pairs[-1]
        pairs.append((-number * pair[0] - ahead[0], -number * pair[1] - ahead[1]))
    return pairs


def times_round(numbers):
    """How often a row of numbers goes round, 0 where it does not close."""
    if gone_through(numbers)[-2:] != [(1, 0), (0, 1)]:
        return 0
    return (sum(numbers) + 3 * len(numbers)) // 12


def round_by(numbers):
    """The round, begun with (1, 0), (0, 1), of a row that closes once; of others NoRow."""
    if times_round(numbers) != 1:
        raise NoRow("the row of numbers does not close once")
    return gone_through(numbers)[:-2]
