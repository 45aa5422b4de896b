"""4.1 and 4.2: functions by a prime known by sums, and reduced polynomials."""

import copy
import itertools

from onceeach.bysums import by_sums, power_sums, reduced, top_of
from onceeach.errors import NoBound, NoFunction, NoNumber, NoPoly, NoPrime
from onceeach.polys import is_poly, worths
from tests.common import (
    NO_BOUNDS, NO_PRIMES, PRIMES, Refusals, identity, no_functions, no_numbers, no_polys, some_functions, some_polys,
    worths_due,
)


def sums_due(prime, function):
    return tuple(sum(worth ** t for worth in function) % prime for t in range(1, prime))


def swapped(prime, a, b):
    """The function that leads a to b, b to a, and all else to itself."""
    return tuple(b if x == a else a if x == b else x for x in range(prime))


def multiplied(prime, one, other):
    product = [0] * (len(one) + len(other))
    for k, number in enumerate(one):
        for j, factor in enumerate(other):
            product[k + j] = (product[k + j] + number * factor) % prime
    return product


def raised_poly(prime, poly, t):
    whole = [1]
    for _ in range(t):
        whole = multiplied(prime, whole, poly)
    return whole


def folded(prime, numbers):
    """The numbers below the prime's place that are left when x ** prime is taken as x, from the last one down."""
    left = list(numbers)
    while len(left) > prime:
        left[len(left) - prime] = (left[len(left) - prime] + left[-1]) % prime
        left.pop()
    return left + [0] * (prime - len(left))


def long_polys(prime):
    found = [(0,) * many + (1,) for many in range(prime - 1, 4 * prime)]
    found += [(1,) * many for many in range(prime, 3 * prime)]
    for a in range(1, 6):
        found.append(tuple((a * k * k + k // 2) % prime for k in range(3 * prime + a)) + (1,))
        found.append((0,) * (prime * a) + (a % prime, prime - 1))
        found.append(tuple((a + k * k * k // 3) % prime for k in range(100)) + (prime - 1,))
    # Such as come to fewer numbers, or to none: x ** prime less x, and this times x.
    found += [(0, prime - 1) + (0,) * (prime - 2) + (1,), (0, 0, prime - 1) + (0,) * (prime - 2) + (1,)]
    return found


class TestPowerSums(Refusals):

    def test_arguments(self):
        self.takes(power_sums, "prime", "function")
        self.takes(by_sums, "prime", "function")
        self.same((0, 2), power_sums(function=(1, 2, 0), prime=3))
        self.same(True, by_sums(function=(1, 2, 0), prime=3))

    def test_each_prime(self):
        for prime in PRIMES:
            for function in some_functions(prime):
                self.same(sums_due(prime, function), power_sums(prime, function))
                self.same(len(set(function)) == prime, by_sums(prime, function))

    def test_all_by_few(self):
        for prime in (2, 3, 5):
            for function in itertools.product(range(prime), repeat=prime):
                self.same(sums_due(prime, function), power_sums(prime, function))
                self.same(len(set(function)) == prime, by_sums(prime, function))

    def test_one_sum_alone_by_two(self):
        self.same((0,), power_sums(2, (0, 0)))
        self.same((1,), power_sums(2, (0, 1)))
        self.same((1,), power_sums(2, (1, 0)))
        self.same((0,), power_sums(2, (1, 1)))
        self.same([False, True, True, False], [by_sums(2, f) for f in ((0, 0), (0, 1), (1, 0), (1, 1))])

    def test_once_and_nearly_so(self):
        for prime in PRIMES:
            for a, b in itertools.combinations(range(prime), 2):
                self.same((0,) * (prime - 2) + (prime - 1,), power_sums(prime, swapped(prime, a, b)))
                self.same(True, by_sums(prime, swapped(prime, a, b)))
                nearly = tuple(b if x == a else x for x in range(prime))
                self.same(False, by_sums(prime, nearly))

    def test_all_but_the_last_are_nought(self):
        # A function of one worth alone has each sum 0, so the last one alone tells that it is not once.
        for prime in PRIMES:
            for worth in range(prime):
                self.same((0,) * (prime - 1), power_sums(prime, (worth,) * prime))
                self.same(False, by_sums(prime, (worth,) * prime))

    def test_last_sum_alone_is_not_enough(self):
        self.same((1, 2), power_sums(3, (2, 2, 0)))
        self.same(False, by_sums(3, (2, 2, 0)))
        self.same((3, 0, 1, 4), power_sums(5, (0, 1, 1, 3, 3)))
        self.same(False, by_sums(5, (0, 1, 1, 3, 3)))

    def test_refused_from_the_left(self):
        for call in (power_sums, by_sums):
            for wrong in NO_BOUNDS:
                self.refused(NoBound, call, wrong, (0, 1))
                self.refused(NoBound, call, wrong, None)
            for bound in NO_PRIMES:
                self.refused(NoPrime, call, bound, identity(bound))
                for wrong in no_functions(bound):
                    self.refused(NoPrime, call, bound, wrong)
            for prime in (2, 3, 13):
                for wrong in no_functions(prime):
                    self.refused(NoFunction, call, prime, wrong)

    def test_what_is_refused_stays(self):
        for call in (power_sums, by_sums):
            thing = [1, 0, [2]]
            self.refused(NoFunction, call, 3, thing)
            self.same([1, 0, [2]], thing)

    def test_same_answer_again(self):
        asked = [(call, function) for call in (power_sums, by_sums) for function in some_functions(7)]
        first = [call(7, function) for call, function in asked]
        self.same(first[::-1], [call(7, function) for call, function in asked[::-1]])


class TestReduced(Refusals):

    def test_arguments(self):
        self.takes(reduced, "prime", "poly")
        self.same((0, 1), reduced(poly=(0, 0, 0, 1), prime=3))

    def test_short_ones_stay(self):
        for prime in PRIMES:
            self.same((), reduced(prime, ()))
            for number in range(1, prime):
                self.same((number,), reduced(prime, (number,)))
            for poly in some_polys(prime):
                if len(poly) <= prime:
                    self.same(poly, reduced(prime, poly))
            self.same((0,) * (prime - 1) + (1,), reduced(prime, (0,) * (prime - 1) + (1,)))
            self.same((1,) * prime, reduced(prime, (1,) * prime))

    def test_all_short_ones_by_few(self):
        for prime in (2, 3):
            for many in range(prime + 1):
                for poly in itertools.product(range(prime), repeat=many):
                    if poly[-1:] != (0,):
                        self.same(poly, reduced(prime, poly))

    def test_long_ones(self):
        for prime in PRIMES:
            for poly in some_polys(prime) + long_polys(prime):
                told = reduced(prime, poly)
                self.same(True, is_poly(prime, told))
                self.assertLessEqual(len(told), prime)
                self.same(worths_due(prime, poly), worths(prime, told))

    def test_long_ones_come_to_one(self):
        # The same worths, the same reduced polynomial: there are as many of these as functions.
        for prime in (2, 3):
            found = {}
            for many in range(2 * prime + 2):
                for poly in itertools.product(range(prime), repeat=many):
                    if poly[-1:] != (0,):
                        told = reduced(prime, poly)
                        self.same(found.setdefault(worths_due(prime, poly), told), told)
            self.assertEqual(prime ** prime, len(found))

    def test_known(self):
        self.same((0, 1), reduced(2, (0, 0, 0, 0, 0, 1)))
        self.same((1,), reduced(2, (1, 1, 1)))
        self.same((), reduced(5, (0, 4, 0, 0, 0, 1)))
        self.same((2, 4, 0, 0, 1), reduced(5, (2, 3, 0, 0, 1, 1)))
        self.same((3, 1, 0, 0, 2), reduced(5, (3, 0, 0, 0, 1, 1, 0, 0, 1)))
        self.same((0, 0, 1), reduced(13, (0,) * 14 + (1,)))

    def test_refused_from_the_left(self):
        for wrong in NO_BOUNDS:
            self.refused(NoBound, reduced, wrong, (1,))
            self.refused(NoBound, reduced, wrong, None)
        for bound in NO_PRIMES:
            self.refused(NoPrime, reduced, bound, (1,))
            self.refused(NoPrime, reduced, bound, (1, 0))
            self.refused(NoPrime, reduced, bound, None)
        for prime in (2, 5, 13):
            for wrong in no_polys(prime):
                self.refused(NoPoly, reduced, prime, wrong)

    def test_what_is_refused_stays(self):
        thing = [1, 2, [3]]
        kept = copy.deepcopy(thing)
        self.refused(NoPoly, reduced, 5, thing)
        self.refused(NoPoly, top_of, 5, thing, 1)
        self.same(kept, thing)


class TestTopOf(Refusals):

    def test_arguments(self):
        self.takes(top_of, "prime", "poly", "t")
        self.same(1, top_of(t=2, poly=(0, 1), prime=3))

    def test_each_prime(self):
        for prime in PRIMES:
            for poly in some_polys(prime)[:20] + long_polys(prime)[::4]:
                short = folded(prime, poly)
                for t in range(1, prime):
                    due = folded(prime, raised_poly(prime, short, t))[prime - 1]
                    self.same(due, top_of(prime, poly, t))

    def test_power_sum_is_nought_less_it(self):
        for prime in PRIMES:
            for poly in some_polys(prime) + long_polys(prime)[::3]:
                sums = sums_due(prime, worths_due(prime, poly))
                self.same(sums, tuple(-top_of(prime, poly, t) % prime for t in range(1, prime)))

    def test_edges(self):
        for prime in PRIMES:
            self.same(0, top_of(prime, (), 1))
            self.same(0, top_of(prime, (), prime - 1))
            # A polynomial of one number stays one: it has none at the place, not even by 2.
            self.same(0, top_of(prime, (1,), 1))
            self.same(0, top_of(prime, (1,), prime - 1))
            self.same(1, top_of(prime, (0, 1), prime - 1))
            self.same(1, top_of(prime, (0,) * (prime - 1) + (1,), 1))
            self.same(prime - 1, top_of(prime, (1,) * (prime - 1) + (prime - 1,), 1))
        self.same(1, top_of(2, (0, 1), 1))
        self.same(0, top_of(3, (0, 1), 1))
        self.same(2, top_of(5, (3, 0, 0, 0, 1, 1, 0, 0, 1), 1))

    def test_no_numbers(self):
        for prime in PRIMES:
            for wrong in [0, prime] + no_numbers(prime):
                self.refused(NoNumber, top_of, prime, (0, 1), wrong)
                self.refused(NoNumber, top_of, prime, (), wrong)

    def test_refused_from_the_left(self):
        for wrong in NO_BOUNDS:
            self.refused(NoBound, top_of, wrong, (1,), 1)
            self.refused(NoBound, top_of, wrong, None, None)
        for bound in NO_PRIMES:
            self.refused(NoPrime, top_of, bound, (1,), 1)
            self.refused(NoPrime, top_of, bound, None, None)
        for prime in (2, 5, 13):
            for wrong in no_polys(prime):
                self.refused(NoPoly, top_of, prime, wrong, 1)
                self.refused(NoPoly, top_of, prime, wrong, 0)
                self.refused(NoPoly, top_of, prime, wrong, None)

    def test_same_answer_again(self):
        asked = [(poly, t) for poly in long_polys(7) for t in range(1, 7)]
        first = [top_of(7, poly, t) for poly, t in asked]
        self.same(first[::-1], [top_of(7, poly, t) for poly, t in asked[::-1]])
