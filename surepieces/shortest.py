"""Shortest ring texts that fit a book, those that cost least, and prices that show that none costs less."""

from surepieces.common import begun, is_whole, rebuilt
from surepieces.counts import balance, ring_round, surpluses
from surepieces.errors import InvalidCosts, NotBalanced
from surepieces.sure import check_ringed


def least_cost(book, costs):
    """Returns the least cost of a ring text that fits a book."""
    return cost_of(costs, best_counts(book, costs))


def best_counts(book, costs):
    """Returns the counts of a ring text that fits a book and has the least cost."""
    check_costs(book, costs)
    # Of those that cost least a shortest one, so that what costs nothing does not make it long. It has no more
    # letters than the square of the number of windows, so these never outweigh what is saved of the cost.
    scale = len(costs) ** 2 + 1
    return lightest_counts(book, [cost * scale + 1 for cost in costs])


def best_ring(book, costs):
    """Returns a ring text that fits a book and has the least cost, one with the fewest letters of these."""
    return ring_round(book, best_counts(book, costs))


def shortest(book):
    """Returns the least number of letters of a ring text that fits a book."""
    check_ringed(book)
    return sum(lightest_counts(book, [1] * len(book[1])))


def prices(book, costs):
    """Returns prices of the places of a book, which show that no ring text that fits costs less than the least cost."""
    links = links_open(book, costs, best_counts(book, costs))
    far, _ = lightest_ways(book[1][0][:-1], links)
    # A window that stands more than once is open both ways, so it costs just what the prices of its places differ by.
    most = max(far.values())
    return tuple([most - far[place] for place in begun(book)])


def prices_hold(book, costs, cost, value):
    """Tells whether any object is prices that show that no ring text that fits costs less than a cost."""
    check_costs(book, costs)
    over = surpluses(book, (1,) * len(costs))
    if not isinstance(value, tuple) or len(value) != len(over):
        return False
    if not all([is_whole(price) for price in value]) or min(value) != 0:
        return False
    told = dict(zip(over, value))
    if any([told[window[:-1]] - told[window[1:]] > own for window, own in zip(book[1], costs)]):
        return False
    return sum(costs) + sum([told[place] * over[place] for place in over]) == cost


def is_best(book, costs, counts):
    """Tells whether counts, each from 1 on, that balance have the least cost."""
    return cheaper(book, costs, counts) is None


def cheaper(book, costs, counts):
    """Returns counts, each from 1 on, that balance and cost less than such counts, None if there are none."""
    check_costs(book, costs)
    if not balance(book, counts) or 0 in counts:
        raise NotBalanced(rebuilt(counts))
    best = best_counts(book, costs)
    return best if cost_of(costs, best) < cost_of(costs, counts) else None


def check_costs(book, costs):
    """Refuses what is no costs for the book, and, as check_ringed does, the book."""
    check_ringed(book)
    if not is_costs(book, costs):
        raise InvalidCosts(rebuilt(costs))


def is_costs(book, value):
    """Tells whether any object is costs for what surely is a book."""
    if not isinstance(value, tuple) or len(value) != len(book[1]):
        return False
    return all([is_whole(cost) and 0 <= cost <= 10 ** 30 for cost in value])


def cost_of(costs, counts):
    """Returns what counts cost."""
    return sum([cost * count for cost, count in zip(costs, counts)])


def lightest_counts(book, weights):
    """Returns counts, each from 1 on, that balance and weigh least, by weights from 0 on of the windows."""
    counts = [1] * len(weights)
    while True:
        over = surpluses(book, counts)
        starts = [place for place in over if over[place] > 0]
        if not starts:
            return tuple(counts)
        # By a lightest way each time, so that no counts with the same surpluses weigh less than these.
        _, last = lightest_ways(starts[0], links_open(book, weights, counts))
        ends = [place for place in over if over[place] < 0]
        here = ends[0]
        while here != starts[0]:
            here, _, _, at, sign = last[here]
            counts[at] += sign


def links_open(book, weights, counts):
    """Returns the list of the links along which counts can change by one and still be from 1 on.

    Each is a tuple of the place that hands one on, the place that gets it, the weight of that,
    the index of the window, and 1, if its count goes up, or -1, if it goes down.
    """
    links = []
    for at, window in enumerate(book[1]):
        links.append((window[:-1], window[1:], weights[at], at, 1))
        if counts[at] > 1:
            links.append((window[1:], window[:-1], -weights[at], at, -1))
    return links


def lightest_ways(start, links):
    """Returns a dict with the weight of a lightest way from a place to each one, and one with the last links of these.

    No way round along the links weighs less than 0.
    """
    far, last = {start: 0}, {}
    changed = True
    while changed:
        changed = False
        for link in links:
            one, other, weight, _, _ = link
            if one in far and (other not in far or far[one] + weight < far[other]):
                far[other] = far[one] + weight
                last[other] = link
                changed = True
    return far, last
