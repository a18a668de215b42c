"""What several test files need: books, objects of all kinds, and plain looks at what the document says.

The plain looks are slow and use nothing of the package.
"""

import random
import time
import unittest
from decimal import Decimal
from fractions import Fraction
from heapq import heappop, heappush
from itertools import combinations, product

BOOK = (2, ("ab", "bc", "bd", "ca", "da"))
NO_RING = (2, ("ab", "bb"))
SMALL_LETTERS = "abcdefghijklmnopqrstuvwxyz"
# A call takes milliseconds; this only tells a slow machine from a search without an end.
SOON = 20


def nested(kind, depth):
    """A list or tuple, nested so deep."""
    value = kind([])
    for _ in range(depth - 1):
        value = kind([value])
    return value


def some_function():
    return None


def odd_objects():
    """New objects of all kinds; none of them is a book, a ring text, a size, a piece, a leaving or a paper."""
    twice = ["ab"]
    return [
        None, True, False, 0, 1, -1, 7, 10 ** 40, "", "A", "aB", "a b", "a\n", "\n", "a-b", "a1", "`", "{", "~", " ",
        b"", b"ab", b"abcabd", [], ["ab"], ["ab", ["bc"]], [twice, twice], [True], ("ab", ["bc"], [["ca"]]),
        (2, ["ab"]), [2, ("ab",)], (twice, twice), {}, {"ab": 1}, {"ab": ["bc"]}, {"ab"}, set(), frozenset(["ab"]),
        range(3), some_function, int, object(), nested(list, 100), nested(tuple, 100), (None,), ("ab", None),
        (("ab",), ("bc", 2)), [{"a": ()}], (set(),), bytearray(b"ab"), Ellipsis,
    ]


def faulty_books():
    """New objects that are no books, among them those that nearly are."""
    return odd_objects() + [
        "ab", 2, (), (2,), ("ab",), (2, ("ab",), ()), (("ab",), 2), [2, ("ab",)], (2, ["ab"]), {2: ("ab",)},
        ("2", ("ab",)), (None, ("ab",)), (True, ("a",)), (0, ("",)), (1, ("a",)), (7, ("abcdefg",)), (-2, ("ab",)),
        (2, ()), (2, None), (2, "ab"), (2, b"ab"), (2, {"ab": 1}), (2, {"ab"}), (2, frozenset(["ab"])), (2, range(2)),
        (2, ("ab", "ab")), (2, ("bc", "ab")), (2, ("ab", "bc", "ba")), (2, ("ab", "abc")), (2, ("a",)), (3, ("ab",)),
        (2, ("aB",)), (2, ("AB",)), (2, ("a ",)), (2, ("a1",)), (2, ("a\n",)), (2, ("a`",)), (2, ("a{",)), (2, ("  ",)),
        (2, (b"ab",)), (2, (("a", "b"),)), (2, (["a", "b"],)), (2, ("ab", 3)), (2, (3, "ab")), (2, ("ab", None)),
        (2, ("ab", ["bc"])), (2, ("ab", ("bc",))), (2, (nested(list, 98),)), (nested(list, 99), ("ab",)), (2, (True,)),
    ]


def same(one, other):
    """Whether two objects are alike, kinds and all."""
    if type(one) is not type(other):
        return False
    if isinstance(one, (list, tuple)):
        return len(one) == len(other) and all(same(a, b) for a, b in zip(one, other))
    return one is other or one == other


def lists_in(value):
    """The ids of the lists in an object, as often as they stand there, but for those in dicts and sets."""
    if not isinstance(value, (list, tuple)):
        return []
    own = [id(value)] if isinstance(value, list) else []
    return own + [number for item in value for number in lists_in(item)]


def assert_refused(case, error, value, function, /, *args, **named):
    """A call raises just this error, with the value as it was, built anew."""
    before = repr((args, named))
    with case.assertRaises(error) as caught:
        function(*args, **named)
    told = caught.exception.value
    case.assertIs(type(caught.exception), error, (function, args, named))
    case.assertTrue(same(told, value), (function, told, value))
    case.assertEqual(repr((args, named)), before)
    case.assertEqual(len(set(lists_in(told))), len(lists_in(told)), "a list stands in two places")
    case.assertFalse(set(lists_in(told)) & set(lists_in(value)), "a list is kept")
    if isinstance(value, (list, tuple)) and value:
        case.assertIsNot(told, value)


def small_books(size, letters):
    """All books of a size with windows of these letters."""
    windows = ["".join(letter) for letter in product(letters, repeat=size)]
    for number in range(1, 1 << len(windows)):
        yield (size, tuple(window for at, window in enumerate(windows) if number >> at & 1))


def pieces(book, longest):
    """All pieces of a book of at most so many letters, short ones first."""
    size, windows = book
    front = list(windows) if size <= longest else []
    while front:
        yield from front
        if len(front[0]) == longest:
            return
        front = [piece + window[-1] for piece in front for window in windows if window[:-1] == piece[1 - size:]]


def random_piece(rng, book, steps):
    """A piece with so many steps that takes any window each time."""
    piece = rng.choice(book[1])
    for _ in range(steps - 1):
        piece += rng.choice([window[-1] for window in book[1] if window[:-1] == piece[1 - book[0]:]])
    return piece


def plain_places(book):
    return sorted({window[:-1] for window in book[1]} | {window[1:] for window in book[1]})


def plain_windows(size, ring):
    """The windows of a ring text, read letter by letter."""
    return sorted({"".join(ring[(at + k) % len(ring)] for k in range(size)) for at in range(len(ring))})


def plain_fits(book, ring):
    return plain_windows(book[0], ring) == list(book[1])


def plain_stands(ring, piece):
    return any(all(ring[(at + k) % len(ring)] == letter for k, letter in enumerate(piece)) for at in range(len(ring)))


def plain_rings(size, letters, longest):
    """All ring texts of these letters up to so many, by the tuple of their windows."""
    found = {}
    for length in range(1, longest + 1):
        for row in product(letters, repeat=length):
            ring = "".join(row)
            found.setdefault(tuple(plain_windows(size, ring)), []).append(ring)
    return found


def plain_closed_lot(book, value):
    spots = plain_places(book)
    if not isinstance(value, tuple) or not value or list(value) != sorted(set(value)) or list(value) == spots:
        return False
    return all(place in spots for place in value) and all(
        window[1:] in value for window in book[1] if window[:-1] in value)


def plain_leaving(book, piece, value):
    """Whether a tuple of two integers and a text is a leaving, word by word as point [5] has it."""
    size, windows = book
    i, j, way = value
    steps = [piece[at:at + size] for at in range(len(piece) - size + 1)]
    if not (1 <= i and i <= j and j <= len(steps) - 1):
        return False
    own = [way[at:at + size] for at in range(len(way) - size + 1)]
    if not own or any(step not in windows for step in own):
        return False
    spots = [way[at:at + size - 1] for at in range(len(way) - size + 2)]
    first, last = steps[j][:-1], steps[i - 1][1:]
    if own[0] == steps[j] or own[-1] == steps[i - 1] or spots[0] != first or spots[-1] != last:
        return False
    inner = spots[1:-1]
    if first in inner or last in inner or (first != last and (first == spots[-1] or last == spots[0])):
        return False
    return all(inner.count(place) == 1 for place in inner)


def plain_paper(book, piece, value):
    """Whether a tuple of tuples of texts is a paper, word by word as point [11] has it."""
    size, windows = book
    steps = [piece[at:at + size] for at in range(len(piece) - size + 1)]
    n = len(steps) - 1
    pairs = sorted(((i, j) for i in range(1, n + 1) for j in range(i, n + 1)), key=lambda pair: (pair[1], pair[0]))
    if len(value) != len(pairs):
        return False
    for (i, j), lot in zip(pairs, value):
        into, out = steps[i - 1], steps[j]
        if list(lot) != sorted(set(lot)) or not set(lot) <= set(windows):
            return False
        if any(window not in lot for window in windows if window != out and window[:-1] == out[:-1]):
            return False
        for window in lot:
            if window[1:] == into[1:] and window != into:
                return False
            if window[1:] not in (into[1:], out[:-1]) and any(
                    other not in lot for other in windows if other[:-1] == window[1:]):
                return False
    return True


def plain_leavings(book, piece):
    """All leavings of a piece, by trying all pieces that could be a way."""
    n = len(piece) - book[0]
    longest = book[0] + len(plain_places(book))
    return [(i, j, way) for way in pieces(book, longest) for j in range(1, n + 1) for i in range(1, j + 1)
            if plain_leaving(book, piece, (i, j, way))]


def plain_missable(book, texts):
    """Whether some ring text that fits has none of the texts, by a look at all pieces as long as the longest one."""
    many = max(len(text) for text in texts)
    links = [piece for piece in pieces(book, many)
             if len(piece) == many and not any(text in piece for text in texts)]
    after = {}
    for link in links:
        after.setdefault(link[:-1], []).append(link[1:])
    ahead = {}
    for start in after:
        ahead[start], front = {start}, [start]
        while front:
            further = {other for spot in front for other in after.get(spot, [])} - ahead[start]
            ahead[start] |= further
            front = sorted(further)
    for start in after:
        round_it = [link for link in links if link[:-1] in ahead[start] and start in ahead.get(link[1:], [])]
        if {link[-book[0]:] for link in round_it} == set(book[1]):
            return True
    return False


def plain_longest(book):
    """The longest sure pieces, by growing all sure ones letter by letter; each piece within a sure one is sure."""
    found, front = [], list(book[1])
    letters = sorted({letter for window in book[1] for letter in window})
    while front:
        known = set(front)
        longer = {piece + letter for piece in front for letter in letters if piece[1 - book[0]:] + letter in book[1]}
        longer = {piece for piece in longer if piece[1:] in known and not plain_missable(book, [piece])}
        found += [piece for piece in front if not any(piece in other for other in longer)]
        front = sorted(longer)
    return sorted(found)


def plain_counts(book, ring):
    """How often each window is read in a ring text, None if it has another one."""
    read = ["".join(ring[(at + k) % len(ring)] for k in range(book[0])) for at in range(len(ring))]
    return tuple(read.count(window) for window in book[1]) if set(read) <= set(book[1]) else None


def plain_balance(book, counts):
    pairs = list(zip(book[1], counts))
    return all(sum(count for window, count in pairs if window[:-1] == place)
               == sum(count for window, count in pairs if window[1:] == place) for place in plain_places(book))


def plain_within(bounds, counts):
    return all(least <= count <= most for (least, most), count in zip(bounds, counts))


def plain_between(book, bounds):
    """All counts that balance within bounds."""
    ranges = [range(least, most + 1) for least, most in bounds]
    return [counts for counts in product(*ranges) if plain_balance(book, counts)]


def plain_bar(book, bounds, value):
    """Whether an object is a bar, word by word as point [31] has it."""
    if type(value) is not tuple or any(type(place) is not str for place in value):
        return False
    if list(value) != sorted(set(value)) or not set(value) <= set(plain_places(book)):
        return False
    out = into = 0
    for window, (least, most) in zip(book[1], bounds):
        out += least if window[:-1] in value and window[1:] not in value else 0
        into += most if window[:-1] not in value and window[1:] in value else 0
    return out > into


def lots(items):
    """All ascending tuples of some of these."""
    return [lot for many in range(len(items) + 1) for lot in combinations(sorted(items), many)]


def other_numbers():
    """New objects that are nearly the integer 1."""
    return [True, Fraction(1), Decimal(1), complex(1, 0), "1", b"1", (1,), [1], {1}, {1: 1}, None]


def faulty_counts(number):
    """New objects that are no counts for a book of so many windows, more than one, among them those that nearly are."""
    right = (1,) * number
    near = [list(right), right[1:], right + (1,), (right,), [right], (list(right),), "1" * number, b"1" * number,
            dict(enumerate(right)), set(range(number)), range(number), (), ((1, 1),) * number, ([1],) * number]
    for at in (0, number - 1):
        for item in other_numbers() + odd_objects() + [-1, -10 ** 40]:
            if type(item) is not int or item < 0:
                near.append(right[:at] + (item,) + right[at + 1:])
    return odd_objects() + near


def faulty_bounds(number):
    """New objects that are no bounds for a book of so many windows, more than one, among them those that nearly are."""
    right = ((0, 1),) * number
    near = [list(right), right[1:], right + ((0, 1),), (right,), (list(right),), dict(right), (0, 1) * number,
            tuple([0, 1] for _ in right), (1,) * number, ("01",) * number, (b"01",) * number, (range(2),) * number]
    wrong = [(2, 1), (-1, 1), (-2, -1), (0, 10 ** 30 + 1), (10 ** 30 + 1, 10 ** 30 + 1), (0,), (0, 1, 2), (), [0, 1],
             {0: 1}, {0, 1}, "01", ((0, 1),), (10 ** 40, 10 ** 41)]
    wrong += [(0, item) for item in other_numbers()] + [(item, 1) for item in other_numbers()] + odd_objects()
    for at in (0, number - 1):
        near += [right[:at] + (pair,) + right[at + 1:] for pair in wrong]
    return odd_objects() + near


def faulty_costs(number):
    """New objects that are no costs for a book of so many windows, more than one, among them those that nearly are."""
    right = (1,) * number
    return faulty_counts(number) + [(10 ** 30 + 1,) + right[1:], right[1:] + (10 ** 30 + 1,), (10 ** 40,) * number]


def plain_ringed(windows):
    """Whether each of the windows leads to each other one, and one by itself to itself, and there is one."""
    if not windows or (len(windows) == 1 and windows[0][1:] != windows[0][:-1]):
        return False
    for part, end in ((slice(1, None), slice(-1)), (slice(-1), slice(1, None))):
        seen, front = {windows[0]}, [windows[0]]
        while front:
            front = [other for other in windows if other not in seen and any(other[end] == one[part] for one in front)]
            seen.update(front)
        if len(seen) < len(windows):
            return False
    return True


def plain_least_cost(book, costs):
    """The least cost of a ring text that fits, by a search over the last window and all windows read so far."""
    windows = book[1]
    done = set()
    queue = [(costs[0], 0, 1)]
    while queue:
        cost, last, read = heappop(queue)
        if (last, read) in done:
            continue
        done.add((last, read))
        if read == (1 << len(windows)) - 1 and windows[last][1:] == windows[0][:-1]:
            return cost
        for at, window in enumerate(windows):
            if window[:-1] == windows[last][1:]:
                heappush(queue, (cost + costs[at], at, read | 1 << at))
    return None


def plain_prices(book, costs, cost, value):
    """Whether an object is prices for this cost, word by word as point [32] has it."""
    spots = plain_places(book)
    if type(value) is not tuple or len(value) != len(spots) or any(type(price) is not int for price in value):
        return False
    price = dict(zip(spots, value))
    if min(value) != 0 or any(price[window[:-1]] - price[window[1:]] > costs[at] for at, window in enumerate(book[1])):
        return False
    total = sum(costs)
    for place in spots:
        ends = len([window for window in book[1] if window[1:] == place])
        begins = len([window for window in book[1] if window[:-1] == place])
        total += price[place] * (ends - begins)
    return total == cost


def plain_readings(size, letters, longest):
    """All ring texts of these letters up to so many, ascending, by what windows stand in them how often."""
    found = {}
    for length in range(1, longest + 1):
        for row in product(letters, repeat=length):
            ring = "".join(row)
            read = sorted("".join(ring[(at + k) % length] for k in range(size)) for at in range(length))
            found.setdefault(tuple(read), []).append(ring)
    return found


def plain_trees(book, counts, root):
    """How many trees lead to a place, by a look at all ways to choose one window out of each other place."""
    used = [(window, count) for window, count in zip(book[1], counts) if count]
    spots = plain_places((book[0], [window for window, _ in used]))
    if root not in spots:
        return 0
    found = 0
    others = [place for place in spots if place != root]
    for row in product(*[[pair for pair in used if pair[0][:-1] == place] for place in others]):
        onward = {window[:-1]: window[1:] for window, _ in row}
        number = 1
        for place, (_, count) in zip(others, row):
            number *= count
            for _ in others:
                place = onward.get(place, root)
            number *= place == root
        found += number
    return found


def ringed(size, letters, number, seed):
    """A book of at most so many windows, and not many fewer, that some ring text fits."""
    rng = random.Random(seed)
    while True:
        ring = "".join(rng.choices(letters, k=rng.randint(number // 2, 2 * number)))
        windows = plain_windows(size, ring)
        if number - 6 <= len(windows) <= number:
            return (size, tuple(windows))


def cycle(size, length):
    """A book of a ring text of so many letters in which no window stands twice."""
    ring = (SMALL_LETTERS + "zyxwvutsrqponmlk")[:length]
    return (size, tuple(plain_windows(size, ring))), ring


def books_at_the_bounds():
    hub = [letter + "a" for letter in "bcdefghijklmnopqrstu"] + ["a" + letter for letter in "bcdefghijklmnopqrstu"]
    yield (2, tuple(sorted(hub)))
    yield (2, tuple(one + other for one in "abcdef" for other in "abcdef"))
    yield (2, tuple(plain_windows(2, SMALL_LETTERS + "acegikmoqsuwy")))
    for size in range(2, 7):
        yield ringed(size, "abcdefgh"[:9 - size] if size < 6 else "abc", 40, size)
    for size in range(3, 7):
        yield cycle(size, 40)[0]


class SoonTest(unittest.TestCase):
    """Fails what takes too long."""

    def setUp(self):
        self.begun = time.monotonic()

    def tearDown(self):
        self.assertLess(time.monotonic() - self.begun, SOON)
