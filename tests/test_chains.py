"""6.2 and 6.3: powers and chains, and which of them are once."""

from math import gcd

from onceeach.chains import chain_once, chain_poly, power_once
from onceeach.errors import NoBound, NoNumber, NoPrime
from onceeach.polys import is_poly
from tests.common import BOUNDS, MOST_TIMES, NO_BOUNDS, NO_PRIMES, NO_WHOLE_NUMBERS, PRIMES, Refusals, no_numbers

# Things that are no whole numbers from 1 to 10 ** 30.
NO_POWERS = [0, -1, -(10 ** 30), 10 ** 30 + 1] + NO_WHOLE_NUMBERS
GREAT = [999, 2 ** 60, 2 ** 61 - 1, 3 ** 40, 10 ** 15 + 1, 5 ** 42, 7 ** 35, MOST_TIMES - 1, MOST_TIMES]


def settled(bound, numbers):
    """The tuple of the numbers' rests without the noughts behind."""
    rests = [number % bound for number in numbers]
    while rests and rests[-1] == 0:
        rests.pop()
    return tuple(rests)


def chain_due(k, a):
    """The whole numbers of the polynomial at k of the chain of a, by no bound."""
    rows = [[2], [0, 1]]
    while len(rows) <= k:
        row = [0] + rows[-1]
        for at, number in enumerate(rows[-2]):
            row[at] -= a * number
        rows.append(row)
    return rows[k]


def chain_worths(prime, k, a):
    """The worths of the polynomial at k, reckoned along the chain number by number."""
    found = []
    for x in range(prime):
        here, after = 2 % prime, x
        for _ in range(k):
            here, after = after, (x * after - a * here) % prime
        found.append(here)
    return found


class TestPowerOnce(Refusals):

    def test_arguments(self):
        self.takes(power_once, "prime", "k")
        self.same(True, power_once(k=3, prime=5))

    def test_against_worths(self):
        for prime in PRIMES:
            for k in range(1, 200):
                due = len({pow(x, k, prime) for x in range(prime)}) == prime
                self.same(due, power_once(prime, k))

    def test_great_ones(self):
        for prime in PRIMES:
            for k in GREAT:
                due = len({pow(x, k, prime) for x in range(prime)}) == prime
                self.same(due, power_once(prime, k))
                self.same(gcd(k, prime - 1) == 1, power_once(prime, k))

    def test_known(self):
        for prime in PRIMES:
            self.same(True, power_once(prime, 1))
            self.same(prime == 2, power_once(prime, 2))
            self.same(prime == 2, power_once(prime, MOST_TIMES))
            self.same(True, power_once(prime, prime))
            self.same(prime == 2, power_once(prime, prime - 1))
        self.same(True, power_once(5, MOST_TIMES - 1))
        self.same(False, power_once(7, MOST_TIMES - 1))

    def test_no_powers(self):
        for prime in PRIMES:
            for wrong in NO_POWERS:
                self.refused(NoNumber, power_once, prime, wrong)

    def test_refused_from_the_left(self):
        for wrong in NO_BOUNDS:
            self.refused(NoBound, power_once, wrong, 1)
            self.refused(NoBound, power_once, wrong, None)
        for bound in NO_PRIMES:
            self.refused(NoPrime, power_once, bound, 1)
            for wrong in NO_POWERS:
                self.refused(NoPrime, power_once, bound, wrong)

    def test_same_answer_again(self):
        asked = [(prime, k) for prime in PRIMES for k in (1, 5, 6, 7, MOST_TIMES)]
        first = [power_once(prime, k) for prime, k in asked]
        self.same(first[::-1], [power_once(prime, k) for prime, k in asked[::-1]])


class TestChainPoly(Refusals):

    def test_arguments(self):
        self.takes(chain_poly, "bound", "k", "a")
        self.same((3, 0, 1), chain_poly(a=1, k=2, bound=5))

    def test_each_bound(self):
        for bound in BOUNDS:
            for a in range(bound):
                for k in (0, 1, 2, 3, 4, 5, 6, 7, 16, 25, 39, 40):
                    told = chain_poly(bound, k, a)
                    self.same(True, is_poly(bound, told))
                    self.same(settled(bound, chain_due(k, a)), told)

    def test_at_nought_and_one(self):
        for bound in BOUNDS:
            for a in range(bound):
                self.same(() if bound == 2 else (2,), chain_poly(bound, 0, a))
                self.same((0, 1), chain_poly(bound, 1, a))

    def test_at_two(self):
        for bound in BOUNDS:
            self.same((0, 0, 1), chain_poly(bound, 2, 0))
            self.same(settled(bound, [2, 0, 1]), chain_poly(bound, 2, bound - 1))
            self.same(settled(bound, [-2, 0, 1]), chain_poly(bound, 2, 1))

    def test_chain_of_nought_is_of_powers(self):
        for bound in BOUNDS:
            for k in range(1, 41):
                self.same((0,) * k + (1,), chain_poly(bound, k, 0))

    def test_known(self):
        self.same((0, 0, 1), chain_poly(2, 2, 1))
        self.same((0, 1, 0, 1), chain_poly(2, 3, 1))
        self.same((2, 0, 5, 0, 1), chain_poly(9, 4, 1))
        self.same((0, 5, 0, 11, 0, 1), chain_poly(16, 5, 1))
        self.same((0, 5, 0, 5, 0, 1), chain_poly(16, 5, 15))
        self.assertEqual(41, len(chain_poly(16, 40, 15)))

    def test_no_places(self):
        for bound in (2, 4, 13, 16):
            for wrong in [-1, 41, 42, -40, 10 ** 30] + NO_WHOLE_NUMBERS:
                self.refused(NoNumber, chain_poly, bound, wrong, 0)
                self.refused(NoNumber, chain_poly, bound, wrong, None)

    def test_no_numbers(self):
        for bound in BOUNDS:
            for wrong in no_numbers(bound):
                for k in (0, 1, 2, 40, 41, None):
                    self.refused(NoNumber, chain_poly, bound, k, wrong)

    def test_refused_from_the_left(self):
        for wrong in NO_BOUNDS:
            self.refused(NoBound, chain_poly, wrong, 1, 1)
            self.refused(NoBound, chain_poly, wrong, None, None)

    def test_same_answer_again(self):
        asked = [(k, a) for k in range(12) for a in range(6)]
        first = [chain_poly(6, k, a) for k, a in asked]
        self.same(first[::-1], [chain_poly(6, k, a) for k, a in asked[::-1]])


class TestChainOnce(Refusals):

    def test_arguments(self):
        self.takes(chain_once, "prime", "k", "a")
        self.same(False, chain_once(a=1, k=3, prime=5))

    def test_against_chain_poly(self):
        for prime in PRIMES:
            for a in range(prime):
                for k in range(1, 41):
                    poly = chain_poly(prime, k, a)
                    found = {sum(n * x ** j for j, n in enumerate(poly)) % prime for x in range(prime)}
                    self.same(len(found) == prime, chain_once(prime, k, a))

    def test_against_the_chain_itself(self):
        # One whole round of the rests of k by p * p - 1, and some more.
        for prime in PRIMES:
            for a in {0, 1, 2 % prime, prime - 1}:
                for k in range(1, prime * prime + 3):
                    due = len(set(chain_worths(prime, k, a))) == prime
                    self.same(due, chain_once(prime, k, a))

    def test_great_ones(self):
        for prime in PRIMES:
            for k in GREAT:
                self.same(gcd(k, prime - 1) == 1, chain_once(prime, k, 0))
                for a in range(1, prime):
                    self.same(gcd(k, prime * prime - 1) == 1, chain_once(prime, k, a))

    def test_known(self):
        # 3 goes into 24, but not into 4: the chain of 0 is once by 5 at 3, the others are not.
        self.same([True, False, False, False, False], [chain_once(5, 3, a) for a in range(5)])
        self.same([True, False], [chain_once(2, 3, a) for a in range(2)])
        self.same([True, True], [chain_once(2, MOST_TIMES, a) for a in range(2)])
        self.same([True, False], [chain_once(2, MOST_TIMES - 1, a) for a in range(2)])
        for prime in PRIMES:
            self.same([True] * prime, [chain_once(prime, 1, a) for a in range(prime)])

    def test_no_powers(self):
        for prime in PRIMES:
            for wrong in NO_POWERS:
                for a in (0, 1, None):
                    self.refused(NoNumber, chain_once, prime, wrong, a)

    def test_no_numbers(self):
        for prime in PRIMES:
            for wrong in no_numbers(prime):
                for k in (1, 2, MOST_TIMES, MOST_TIMES + 1, None):
                    self.refused(NoNumber, chain_once, prime, k, wrong)

    def test_refused_from_the_left(self):
        for wrong in NO_BOUNDS:
            self.refused(NoBound, chain_once, wrong, 1, 1)
            self.refused(NoBound, chain_once, wrong, None, None)
        for bound in NO_PRIMES:
            self.refused(NoPrime, chain_once, bound, 1, 1)
            self.refused(NoPrime, chain_once, bound, 0, 1)
            self.refused(NoPrime, chain_once, bound, None, None)

    def test_same_answer_again(self):
        asked = [(prime, k, a) for prime in PRIMES for k in (1, 5, 6, 7, MOST_TIMES) for a in (0, 1)]
        first = [chain_once(*told) for told in asked]
        self.same(first[::-1], [chain_once(*told) for told in asked[::-1]])
