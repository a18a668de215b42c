"""Point [32]: shortest and cheapest ring texts, and the prices that show that none costs less; fact P1."""

import random
import unittest
from itertools import product

from tests.helper import BOOK, SMALL_LETTERS, SoonTest, books_at_the_bounds, faulty_costs, faulty_counts, odd_objects
from tests.helper import plain_balance, plain_counts, plain_fits, plain_least_cost, plain_places, plain_prices
from tests.helper import plain_ringed, plain_rings, plain_windows, small_books
from surepieces.errors import InvalidCosts, InvalidCounts, NoRing, NotBalanced
from surepieces.shortest import best_counts, best_ring, cheaper, is_best, least_cost, prices, prices_hold, shortest

ONES = (1, 1, 1, 1, 1)
GREATEST = 10 ** 30
LOOPED = (2, ("aa", "ab", "ba"))
CYCLE = (2, ("ab", "bc", "ca"))
# A long way round and a short one, for the window ba that must be read twice.
DETOUR = (2, ("ab", "ac", "ba", "cd", "db"))


def cost_of(costs, counts):
    return sum(cost * count for cost, count in zip(costs, counts))


def random_books(seed, number):
    """Books of two to nine windows that some ring text fits."""
    rng = random.Random(seed)
    found = []
    while len(found) < number:
        size, letters = rng.choice([(2, "abcd"), (2, "abc"), (3, "ab"), (3, "abc"), (4, "ab")])
        ring = "".join(rng.choices(letters, k=rng.randint(2, 10)))
        book = (size, tuple(plain_windows(size, ring)))
        if 2 <= len(book[1]) <= 9:
            found.append(book)
    return found


class Holds(unittest.TestCase):
    def hold(self, book, costs):
        """All that is told of least costs goes together and is as the document has it; returns the least cost."""
        cost, counts, ring = least_cost(book, costs), best_counts(book, costs), best_ring(book, costs)
        self.assertEqual([type(cost), type(counts), type(ring)], [int, tuple, str])
        self.assertTrue(all(type(count) is int and count >= 1 for count in counts), (book, costs, counts))
        self.assertTrue(plain_balance(book, counts), (book, costs, counts))
        self.assertEqual(cost_of(costs, counts), cost, (book, costs, counts))
        self.assertLessEqual(len(ring), 2000)
        self.assertTrue(plain_fits(book, ring), (book, costs, ring))
        self.assertEqual(cost_of(costs, plain_counts(book, ring)), cost, (book, costs, ring))
        told = prices(book, costs)
        self.assertTrue(plain_prices(book, costs, cost, told), (book, costs, told))
        self.assertIs(prices_hold(book, costs, cost, told), True)
        self.assertIs(is_best(book, costs, counts), True)
        self.assertIsNone(cheaper(book, costs, counts))
        return cost


class LeastCostTest(Holds):
    def test_least_cost(self):
        self.assertEqual(self.hold(BOOK, ONES), 6)
        self.assertEqual(self.hold(BOOK, (5, 1, 1, 1, 1)), 14)
        self.assertEqual(self.hold(LOOPED, (7, 2, 3)), 12)
        self.assertEqual(best_counts(BOOK, ONES), (2, 1, 1, 1, 1))

    def test_a_cheap_long_way_and_a_dear_short_one(self):
        book = (2, ("ab", "ac", "ba", "bd", "ca", "cd", "db"))
        for costs in product((0, 1, 9), repeat=7):
            self.assertEqual(self.hold(book, costs), plain_least_cost(book, costs))
        self.assertEqual(self.hold(DETOUR, (9, 1, 1, 1, 1)), 14)

    def test_costs_that_are_all_0(self):
        for book in [BOOK, LOOPED, CYCLE, DETOUR] + random_books(1, 40):
            self.assertEqual(self.hold(book, (0,) * len(book[1])), 0)
            self.assertEqual(len(best_ring(book, (0,) * len(book[1]))), shortest(book))

    def test_costs_some_of_which_are_0(self):
        book = (2, ("aa", "ab", "ba", "bc", "ca", "cb"))
        for costs in product((0, 1), repeat=6):
            self.assertEqual(self.hold(book, costs), plain_least_cost(book, costs))

    def test_the_greatest_costs(self):
        self.assertEqual(self.hold(BOOK, (GREATEST,) * 5), 6 * GREATEST)
        self.assertEqual(self.hold(BOOK, (GREATEST, 0, 0, 0, 0)), 2 * GREATEST)
        self.assertEqual(self.hold(BOOK, (0, 0, 0, GREATEST, GREATEST - 1)), 2 * GREATEST - 1)
        self.assertEqual(self.hold(BOOK, (GREATEST, 1, 0, GREATEST - 1, GREATEST)), 4 * GREATEST)
        self.assertEqual(self.hold((2, ("aa",)), (GREATEST,)), GREATEST)

    def test_costs_that_differ_by_one_alone(self):
        # One way more from a to b is asked for, straight or by c: by that which costs 1 less.
        book = (2, ("ab", "ac", "ba", "bd", "be", "cb", "da", "ea"))
        for cost, told in ((GREATEST - 2, (2, 1)), (GREATEST, (1, 2))):
            counts = best_counts(book, (cost, 0, GREATEST, 0, 0, GREATEST - 1, 0, 0))
            self.assertEqual((counts[0], counts[5]), told)
            self.hold(book, (cost, 0, GREATEST, 0, 0, GREATEST - 1, 0, 0))

    def test_a_book_of_one_window(self):
        for book in ((2, ("aa",)), (6, ("aaaaaa",))):
            self.assertEqual([self.hold(book, (7,)), best_counts(book, (7,)), best_ring(book, (7,))], [7, (1,), "a"])
            self.assertEqual([prices(book, (7,)), shortest(book)], [(0,), 1])
            self.assertIs(is_best(book, (7,), (2,)), False)
            self.assertIs(is_best(book, (0,), (2,)), True)
            self.assertEqual(cheaper(book, (7,), (2,)), (1,))

    def test_an_endless_book(self):
        self.assertEqual(self.hold(CYCLE, (1, 10, 100)), 111)
        self.assertEqual(best_counts(CYCLE, (1, 10, 100)), (1, 1, 1))
        self.assertEqual(self.hold((6, ("ababab", "bababa")), (3, 4)), 7)

    def test_small_books(self):
        rng = random.Random(2)
        for book in list(small_books(2, "ab")) + rng.sample(list(small_books(3, "ab")), 80):
            if plain_ringed(book[1]):
                for _ in range(4):
                    costs = tuple(rng.choice([0, 1, 2, 5, 30, GREATEST]) for _ in book[1])
                    self.assertEqual(self.hold(book, costs), plain_least_cost(book, costs), (book, costs))

    def test_random_books(self):
        rng = random.Random(3)
        for book in random_books(4, 150):
            costs = tuple(rng.choice([0, 1, rng.randint(0, 9), rng.randint(0, GREATEST)]) for _ in book[1])
            self.assertEqual(self.hold(book, costs), plain_least_cost(book, costs), (book, costs))

    def test_a_short_ring_text_where_much_costs_nothing(self):
        # To come round once more for nothing is never asked for.
        for book in random_books(5, 80):
            costs = tuple(at % 3 // 2 for at in range(len(book[1])))
            least = least_cost(book, costs)
            scaled = tuple(1000 * cost + 1 for cost in costs)
            self.assertEqual(1000 * least + len(best_ring(book, costs)), plain_least_cost(book, scaled))

    def test_of_two_ways_that_cost_nothing_the_shorter_one(self):
        # From s to z one goes once more than the windows do: by y, not by t and u.
        book = (2, ("qs", "rs", "st", "sy", "tu", "uz", "yz", "zq", "zr", "zs"))
        for costs in ((0,) * 10, (5, 0) * 2 + (0,) * 6):
            self.assertEqual(best_counts(book, costs), (1, 1, 1, 2, 1, 1, 2, 1, 1, 1))
            self.assertEqual(len(best_ring(book, costs)), 12)
        self.assertEqual(best_counts(book, (0, 0, 0, 1, 0, 0, 0, 0, 0, 0)), (1, 1, 2, 1, 2, 2, 1, 1, 1, 1))

    def test_equal_arguments_give_equal_values(self):
        for function in (best_counts, best_ring, prices):
            self.assertEqual(function(BOOK, ONES), function((2, tuple("ab bc bd ca da".split())), (1,) * 5))


class ShortestTest(unittest.TestCase):
    def test_shortest(self):
        self.assertEqual(shortest(BOOK), 6)
        self.assertEqual(shortest((2, ("aa", "ab", "ba", "bb"))), 4)
        self.assertEqual(shortest(CYCLE), 3)
        self.assertEqual(shortest((6, ("aaaaaa",))), 1)
        self.assertEqual(shortest((6, ("ababab", "bababa"))), 2)
        self.assertIs(type(shortest(BOOK)), int)

    def test_among_all_short_ring_texts(self):
        for size, letters, longest in ((2, "ab", 9), (3, "ab", 11), (2, "abc", 7)):
            rings = plain_rings(size, letters, longest)
            for windows in rings:
                self.assertEqual(shortest((size, windows)), min(map(len, rings[windows])), windows)

    def test_it_is_the_least_cost_of_ones(self):
        for book in random_books(6, 60):
            ones = (1,) * len(book[1])
            self.assertEqual(shortest(book), least_cost(book, ones))
            self.assertEqual(shortest(book), plain_least_cost(book, ones))
            self.assertEqual(shortest(book), len(best_ring(book, ones)))


class PricesTest(unittest.TestCase):
    def test_prices_hold(self):
        self.assertIs(prices_hold(BOOK, ONES, 6, (1, 0, 1, 1)), True)
        self.assertIs(prices_hold(BOOK, ONES, 6, (0, 1, 0, 0)), False)
        self.assertIs(prices_hold(BOOK, ONES, 6, (2, 1, 0, 0)), True)

    def test_a_price_moved_on(self):
        for value in ((2, 0, 1, 1), (1, 0, 1, 3), (0, 0, 1, 1), (1, 1, 1, 1), (2, 1, 2, 2), (0, -1, 0, 0),
                      (1, 0, 3, 1)):
            self.assertIs(prices_hold(BOOK, ONES, 6, value), plain_prices(BOOK, ONES, 6, value), value)
            self.assertIs(prices_hold(BOOK, ONES, 6, value), False, value)

    def test_a_price_left_out_or_too_many(self):
        for value in ((1, 0, 1), (1, 0, 1, 1, 1), (), (0, 1, 1), (1,)):
            self.assertIs(prices_hold(BOOK, ONES, 6, value), False)

    def test_any_cost(self):
        for cost in (5, 7, 0, -1, -6, 10 ** 40, 6 + 10 ** 30):
            self.assertIs(prices_hold(BOOK, ONES, cost, (1, 0, 1, 1)), False)
        self.assertIs(prices_hold(BOOK, ONES, 5, (0, 0, 0, 0)), True)
        self.assertIs(prices_hold(BOOK, ONES, 4, (0, 1, 0, 0)), True)
        self.assertIs(prices_hold(BOOK, (0,) * 5, 0, (0, 0, 0, 0)), True)
        self.assertIs(prices_hold(BOOK, (0, 9, 9, 9, 9), -3 + 36, (0, 3, 0, 0)), True)

    def test_any_object(self):
        right = (1, 0, 1, 1)
        self.assertIs(prices_hold(BOOK, ONES, 6, right), True)
        for value in odd_objects() + [list(right), dict(enumerate(right)), "1011", b"1011", (right,), [right]]:
            self.assertIs(prices_hold(BOOK, ONES, 6, value), False)
        for at in range(4):
            for item in odd_objects() + faulty_counts(2):
                value = right[:at] + (item,) + right[at + 1:]
                if type(item) is not int:
                    self.assertIs(prices_hold(BOOK, ONES, 6, value), False, value)
                else:
                    self.assertIs(prices_hold(BOOK, ONES, 6, value), plain_prices(BOOK, ONES, 6, value), value)

    def test_the_least_price_is_0(self):
        for more in (1, -1, 10 ** 30):
            self.assertIs(prices_hold(BOOK, ONES, 6, tuple(price + more for price in (1, 0, 1, 1))), False)

    def test_all_small_prices(self):
        for book, costs in ((BOOK, ONES), (BOOK, (5, 1, 0, 2, 1)), (LOOPED, (0, 2, 1)), (DETOUR, (9, 1, 1, 1, 1))):
            spots = plain_places(book)
            for cost in range(-2, 16):
                for value in product(range(-1, 4), repeat=len(spots)):
                    self.assertIs(prices_hold(book, costs, cost, value), plain_prices(book, costs, cost, value))

    def test_windows_from_a_place_to_itself_cost_0_or_more(self):
        self.assertIs(prices_hold((2, ("aa",)), (0,), 0, (0,)), True)
        self.assertIs(prices_hold((2, ("aa",)), (4,), 4, (0,)), True)
        self.assertIs(prices_hold((2, ("aa",)), (4,), 4, (1,)), False)


class IsBestTest(Holds):
    def test_is_best(self):
        self.assertIs(is_best(BOOK, ONES, (3, 1, 2, 1, 2)), False)
        self.assertIs(is_best(BOOK, ONES, (2, 1, 1, 1, 1)), True)
        self.assertIs(is_best(BOOK, (1, 0, 0, 0, 0), (2, 1, 1, 1, 1)), True)
        self.assertIs(is_best(LOOPED, (0, 1, 1), (9, 1, 1)), True)

    def test_cheaper(self):
        for counts in ((3, 1, 2, 1, 2), (3, 2, 1, 2, 1), (2 * GREATEST, GREATEST, GREATEST, GREATEST, GREATEST)):
            told = cheaper(BOOK, ONES, counts)
            self.assertTrue(plain_balance(BOOK, told) and min(told) >= 1 and sum(told) < sum(counts), told)
        self.assertIsNone(cheaper(BOOK, (0, 0, 0, 0, 0), (9, 4, 5, 4, 5)))

    def test_counts_of_small_books(self):
        rng = random.Random(7)
        told = 0
        for book in random_books(8, 60):
            costs = tuple(rng.choice([0, 1, 2, 9]) for _ in book[1])
            least = plain_least_cost(book, costs)
            for counts in list(product((1, 2, 3), repeat=min(6, len(book[1]))))[::5]:
                if len(counts) == len(book[1]) and plain_balance(book, counts):
                    other = cheaper(book, costs, counts)
                    self.assertIs(is_best(book, costs, counts), cost_of(costs, counts) == least)
                    self.assertEqual(other is None, cost_of(costs, counts) == least)
                    if other is not None:
                        self.assertTrue(plain_balance(book, other) and min(other) >= 1)
                        self.assertLess(cost_of(costs, other), cost_of(costs, counts))
                        told += 1
        self.assertGreater(told, 50)

    def test_not_balanced(self):
        for counts in (ONES, (0, 0, 0, 0, 0), (1, 1, 0, 1, 0), (2, 1, 1, 1, 2), (2, 2, 0, 2, 0),
                       (10 ** 400, 1, 1, 1, 1)):
            for function in (is_best, cheaper):
                with self.assertRaises(NotBalanced) as caught:
                    function(BOOK, ONES, counts)
                self.assertEqual(caught.exception.value, counts)


class ShortestRefusalsTest(unittest.TestCase):
    """What test_refusals.py does not look at for all files alike."""

    def test_each_error_stands_behind_those_ahead_of_it(self):
        lost, wrong = (2, ("ab", "bb")), [[]]
        for function in (is_best, cheaper):
            self.assertRaises(NoRing, function, lost, wrong, wrong)
            self.assertRaises(InvalidCosts, function, BOOK, wrong, wrong)
            self.assertRaises(InvalidCosts, function, BOOK, wrong, (1, 1, 1, 1, 0))
            self.assertRaises(InvalidCounts, function, BOOK, ONES, wrong)
            self.assertRaises(InvalidCounts, function, BOOK, ONES, (1, 1, 1, 1))
            self.assertRaises(NotBalanced, function, BOOK, ONES, (1, 1, 1, 1, 0))
        self.assertRaises(NoRing, prices_hold, lost, wrong, 0, wrong)
        self.assertRaises(InvalidCosts, prices_hold, BOOK, wrong, 0, wrong)

    def test_costs_for_a_book_of_one_window(self):
        for costs in odd_objects() + [(), (1, 1), [1], (-1,), (10 ** 30 + 1,), (True,), ((1,),)]:
            self.assertRaises(InvalidCosts, least_cost, (2, ("aa",)), costs)

    def test_the_least_and_the_greatest_cost(self):
        for costs in faulty_costs(5):
            self.assertRaises(InvalidCosts, best_counts, BOOK, costs)
        self.assertEqual(least_cost(BOOK, (0, 10 ** 30, 0, 0, 0)), 10 ** 30)
        self.assertRaises(InvalidCosts, least_cost, BOOK, (0, 10 ** 30 + 1, 0, 0, 0))
        self.assertRaises(InvalidCosts, least_cost, BOOK, (0, -1, 0, 0, 0))


class FactP1Test(unittest.TestCase):
    def test_a_ring_text_has_the_least_cost_exactly_if_prices_hold_for_its_cost(self):
        rng = random.Random(9)
        seen = {True: 0, False: 0}
        for size, letters, longest in ((2, "ab", 8), (3, "ab", 9), (2, "abc", 6)):
            rings = plain_rings(size, letters, longest)
            for windows in rng.sample(sorted(rings), min(40, len(rings))):
                book = (size, windows)
                costs = tuple(rng.choice([0, 1, 2, 3]) for _ in windows)
                least, told = plain_least_cost(book, costs), prices(book, costs)
                values = list(product(range(4), repeat=len(plain_places(book))))
                for ring in rng.sample(rings[windows], min(6, len(rings[windows]))):
                    cost = cost_of(costs, plain_counts(book, ring))
                    self.assertIs(prices_hold(book, costs, cost, told), cost == least)
                    if cost > least:
                        some = rng.sample(values, min(20, len(values)))
                        self.assertFalse(any(prices_hold(book, costs, cost, value) for value in some))
                    seen[cost == least] += 1
        self.assertGreater(min(seen.values()), 20)

    def test_no_prices_hold_above_the_least_cost(self):
        for book, costs in ((BOOK, ONES), (LOOPED, (3, 1, 2)), (DETOUR, (9, 1, 1, 1, 1)), (CYCLE, (1, 0, 2))):
            least = plain_least_cost(book, costs)
            for value in product(range(12 if len(book[1]) == 3 else 7), repeat=len(plain_places(book))):
                for cost in (least + 1, least + 2, least + 7):
                    self.assertFalse(prices_hold(book, costs, cost, value))


class ShortestBoundsTest(SoonTest, Holds):
    def test_books_of_forty_windows(self):
        rng = random.Random(10)
        for book in books_at_the_bounds():
            number = len(book[1])
            self.assertEqual(self.hold(book, (1,) * number), shortest(book))
            self.hold(book, (0,) * number)
            self.hold(book, (GREATEST,) * number)
            self.hold(book, tuple(rng.randint(0, GREATEST) for _ in book[1]))
            self.hold(book, tuple(rng.choice([0, 0, 1, GREATEST]) for _ in book[1]))
            many = tuple(10 ** 300 * count for count in best_counts(book, (1,) * number))
            told = cheaper(book, (1,) * number, many)
            self.assertTrue(plain_balance(book, told) and sum(told) < sum(many))

    def test_long_ways_back(self):
        # Each window of a fan comes back by one long way.
        for fan in (2, 7, 10, 13):
            spread, tail = SMALL_LETTERS[1:fan + 1], (SMALL_LETTERS[fan + 1:])[:38 - 2 * fan]
            windows = ["a" + letter for letter in spread] + [letter + tail[0] for letter in spread]
            windows += [one + other for one, other in zip(tail, tail[1:] + "a")]
            book = (2, tuple(sorted(windows)))
            self.assertTrue(24 < len(book[1]) <= 40)
            self.assertEqual(self.hold(book, (1,) * len(book[1])), fan * (2 + len(tail)))
            self.assertEqual(self.hold(book, (0,) * len(book[1])), 0)
            self.assertEqual(len(best_ring(book, (0,) * len(book[1]))), fan * (2 + len(tail)))


if __name__ == "__main__":
    unittest.main()
