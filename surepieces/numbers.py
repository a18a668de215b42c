"""How many ring texts have told counts, and which of them is the n-th as texts compare."""

from math import factorial, gcd

from surepieces.books import check_book, is_piece_of
from surepieces.common import begun, rebuilt, steps_of, unrolled
from surepieces.counts import check_counts, counts_of, has_ring_text
from surepieces.errors import InvalidNumber, InvalidPiece, InvalidPlace, NoRingText, NotWithin


def many(book, counts):
    """Returns the number of readings with these counts."""
    check_told(book, counts)
    return readings(book, counts)


def many_from(book, counts, piece):
    """Returns the number of readings with these counts that begin with a piece."""
    check_told(book, counts)
    if not is_piece_of(book, piece) or len(piece) > sum(counts):
        raise InvalidPiece(rebuilt(piece))
    left = dict(zip(book[1], counts))
    for step in steps_of(book[0], piece):
        left[step] -= 1
    if min(left.values()) < 0:
        return 0
    return ways_on(left, piece[1 - book[0]:], piece[:book[0] - 1])


def rings_many(book, counts):
    """Returns the number of rings with these counts, readings that are turns of one another taken as one."""
    check_told(book, counts)
    divisor = 0
    for count in counts:
        divisor = gcd(divisor, count)
    # Kept are the pairs of a reading and a turn that leaves it as it is: for each ring as many as there are letters.
    kept = 0
    for times in range(1, divisor + 1):
        if divisor % times == 0:
            kept += turns_of(times) * readings(book, [count // times for count in counts])
    return kept // sum(counts)


def nth(book, counts, number):
    """Returns the reading with a number, from 0 on, as texts compare, None if there are not so many."""
    check_told(book, counts)
    if number < 0:
        raise InvalidNumber(number)
    if number >= readings(book, counts):
        return None
    left = dict(zip(book[1], counts))
    steps = []
    while len(steps) < sum(counts):
        step, number = picked(left, steps, number)
        left[step] -= 1
        steps.append(step)
    return "".join([step[0] for step in steps])


def place(book, counts, ring):
    """Returns how many readings with these counts are ahead of one, as texts compare."""
    check_told(book, counts)
    if counts_of(book, ring) != counts:
        raise NotWithin(ring)
    left = dict(zip(book[1], counts))
    steps = []
    ahead = 0
    for step in steps_of(book[0], unrolled(ring, book[0] - 1)):
        ahead += sum([ways_by(left, steps, other) for other in next_windows(left, steps) if other < step])
        left[step] -= 1
        steps.append(step)
    return ahead


def following(book, counts, ring):
    """Returns the next reading behind one, None of the last."""
    return nth(book, counts, place(book, counts, ring) + 1)


def trees(book, counts, place):
    """Returns how many trees lead to a place from all places that windows with a count from 1 on have."""
    check_told(book, counts)
    if not isinstance(place, str) or place not in begun(book):
        raise InvalidPlace(rebuilt(place))
    links = links_of(dict(zip(book[1], counts)))
    return trees_to(links, place) if place in links else 0


def check_told(book, counts):
    """Refuses counts that no ring text has, what is no counts for the book, and what is no book."""
    check_book(book)
    check_counts(book, counts)
    if not has_ring_text(book, counts):
        raise NoRingText(rebuilt(counts))


def readings(book, counts):
    """Returns the number of readings with counts that some ring text has."""
    return sum(counts) * rounds(links_of(dict(zip(book[1], counts)))) // orders(counts)


def turns_of(times):
    """Returns of how many numbers below it, from 0 on, a number has no divisor above 1 in common with it."""
    return len([number for number in range(times) if gcd(number, times) == 1])


def next_windows(left, steps):
    """Returns the ascending list of the windows left that can be read behind some steps, perhaps none."""
    return [window for window in left if left[window] > 0 and (not steps or window[:-1] == steps[-1][1:])]


def picked(left, steps, number):
    """Returns the next step of the reading with a number, of those that begin so, and its number of those behind it.

    There is such a reading, so what the last step there is has need not be counted.
    """
    windows = next_windows(left, steps)
    for window in windows[:-1]:
        ways = ways_by(left, steps, window)
        if number < ways:
            return window, number
        number -= ways
    return windows[-1], number


def ways_by(left, steps, window):
    """Returns how many readings begin with some steps, perhaps none, and then a window, and go on with what is left."""
    rest = {other: left[other] - (other == window) for other in left}
    first = steps[0] if steps else window
    return ways_on(rest, window[1:], first[:-1])


def ways_on(left, here, home):
    """Returns how many ways there are from one place to another along each window as often as it is left."""
    links = links_of(left)
    # One more link, back from the end to the start, closes each way to a round, and each round is just one way.
    add_link(links, home, here, 1)
    return rounds(links) // orders(list(left.values()))


def orders(counts):
    """Returns in how many ways the links of each window can be ordered, all together."""
    found = 1
    for count in counts:
        found *= factorial(count)
    return found


def links_of(left):
    """Returns a dict from each place that windows left have to a dict of how many lead from it to which places."""
    links = {}
    for window in left:
        if left[window] > 0:
            add_link(links, window[:-1], window[1:], left[window])
    return links


def add_link(links, one, other, number):
    """Adds so many links from one place to another one."""
    row = links.setdefault(one, {})
    row[other] = row.get(other, 0) + number


def rounds(links):
    """Returns how many rounds go along all links, each told apart; as many begin at each place as end there.

    A round leaves each place but one by the links of a tree last, and by its other links in any
    order.
    """
    found = trees_to(links, min(links))
    for spot in links:
        found *= factorial(sum(links[spot].values()) - 1)
    return found


def trees_to(links, root):
    """Returns how many trees lead to a place, with one link out of each other place, so that all come there."""
    spots = [spot for spot in links if spot != root]
    rows = []
    for at, spot in enumerate(spots):
        row = [-links[spot].get(other, 0) for other in spots]
        row[at] += sum(links[spot].values())
        rows.append(row)
    return determinant(rows)


def determinant(rows):
    """Returns the determinant of rows as trees_to makes them, which it changes; each division comes out even.

    Such rows never need to change places: where the number that one divides by is 0, so is the
    determinant.
    """
    last = 1
    for at in range(len(rows)):
        own = rows[at][at]
        if own == 0:
            return 0
        for low in range(at + 1, len(rows)):
            part = rows[low][at]
            for col in range(at + 1, len(rows)):
                rows[low][col] = (rows[low][col] * own - part * rows[at][col]) // last
        last = own
    return last
