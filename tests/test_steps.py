"""3.1 and 3.2: steps, and functions told by polynomials."""

import itertools
from math import comb, factorial, gcd, perm

from onceeach.errors import Apart, NoBound, NoFunction
from onceeach.polys import is_poly, worths
from onceeach.steps import falls_of, is_told, poly_by, steps_of
from tests.common import BOUNDS, NO_BOUNDS, PRIMES, Refusals, no_functions, some_functions

ALL = (steps_of, is_told, falls_of, poly_by)


def told_functions(bound, many):
    """All functions that polynomials of so many numbers tell, found by going through them."""
    found = set()
    for numbers in itertools.product(range(bound), repeat=many):
        found.add(tuple(sum(n * x ** k for k, n in enumerate(numbers)) % bound for x in range(bound)))
    return found


def fallen(bound, falls, x):
    """The rest of the sum of all falls, each times x (x - 1) .. (x - k + 1)."""
    return sum(fall * perm(x, k) for k, fall in enumerate(falls)) % bound


class TestSteps(Refusals):

    def test_arguments(self):
        for call in ALL:
            self.takes(call, "bound", "function")
        self.same((0, 1), steps_of(function=(0, 1), bound=2))
        self.same(True, is_told(function=(0, 1), bound=2))
        self.same((0, 1), falls_of(function=(0, 1), bound=2))
        self.same((0, 1), poly_by(function=(0, 1), bound=2))

    def test_each_bound(self):
        for bound in BOUNDS:
            for function in some_functions(bound):
                due = [sum((-1) ** (k - j) * comb(k, j) * function[j] for j in range(k + 1)) for k in range(bound)]
                self.same(tuple(step % bound for step in due), steps_of(bound, function))

    def test_known(self):
        self.same((1, 1), steps_of(2, (1, 0)))
        self.same((0, 1, 2, 0, 0), steps_of(5, (0, 1, 4, 4, 1)))
        self.same((3, 0, 0, 0), steps_of(4, (3, 3, 3, 3)))
        self.same((1, 3, 1, 3), steps_of(4, (1, 0, 0, 0)))
        self.same((0,) * 16, steps_of(16, (0,) * 16))

    def test_refused_from_the_left(self):
        for call in ALL:
            for wrong in NO_BOUNDS:
                self.refused(NoBound, call, wrong, (0, 1))
                self.refused(NoBound, call, wrong, None)
            for bound in (2, 4, 16):
                for wrong in no_functions(bound):
                    self.refused(NoFunction, call, bound, wrong)

    def test_what_is_refused_stays(self):
        for call in ALL:
            thing = [0, 1, [2]]
            self.refused(NoFunction, call, 3, thing)
            self.same([0, 1, [2]], thing)

    def test_same_answer_again(self):
        function = (0, 1, 4, 3, 4, 1)
        first = [call(6, function) for call in ALL]
        self.refused(Apart, poly_by, 6, (1, 0, 0, 0, 0, 0))
        self.same(first[::-1], [call(6, function) for call in ALL[::-1]])


class TestTold(Refusals):

    def look_at(self, bound, function, told):
        self.same(told, is_told(bound, function))
        if not told:
            self.refused(Apart, falls_of, bound, function)
            self.refused(Apart, poly_by, bound, function)
            return
        falls = falls_of(bound, function)
        self.assertIs(tuple, type(falls))
        self.assertNotEqual((0,), falls[-1:])
        for k, fall in enumerate(falls):
            self.assertIn(fall, range(bound // gcd(bound, factorial(k))))
        self.same(function, tuple(fallen(bound, falls, x) for x in range(bound)))
        poly = poly_by(bound, function)
        self.same(True, is_poly(bound, poly))
        self.same(function, worths(bound, poly))
        self.assertEqual(len(falls), len(poly))
        self.same(self.opened(bound, falls), poly)

    def opened(self, bound, falls):
        """The numbers of the sum of all falls, each bracket opened by itself."""
        whole = [0] * len(falls)
        for k, fall in enumerate(falls):
            power = [1]
            for j in range(k):
                power = [a - j * b for a, b in zip([0] + power, power + [0])]
            for at, number in enumerate(power):
                whole[at] += fall * number
        return tuple(number % bound for number in whole)

    def test_all_by_few(self):
        # A product of as many numbers in a row as the bound says is a multiple of it, so no more numbers are needed.
        for bound in (2, 3, 4, 5):
            told = told_functions(bound, bound)
            for function in itertools.product(range(bound), repeat=bound):
                self.look_at(bound, function, function in told)

    def test_by_six(self):
        # Three numbers in a row have a product that 6 goes into.
        told = told_functions(6, 3)
        for function in itertools.product(range(6), repeat=6):
            self.same(function in told, is_told(6, function))
        for function in sorted(told):
            self.look_at(6, function, True)

    def test_by_eight_and_twelve(self):
        for bound in (8, 12):
            told = told_functions(bound, 4)
            for function in sorted(told)[::7]:
                self.look_at(bound, function, True)
            for function in some_functions(bound):
                self.look_at(bound, function, function in told)

    def test_one_polynomial_for_each(self):
        told = told_functions(4, 4)
        self.assertEqual(len(told), len({poly_by(4, function) for function in told}))

    def test_by_primes_each_function_is_told(self):
        for prime in PRIMES:
            for function in some_functions(prime):
                self.look_at(prime, function, True)

    def test_worths_of_polynomials_are_told(self):
        for bound in BOUNDS:
            for a in range(bound):
                function = tuple((a * x ** 7 + x ** 5 + a * x * x + 3) % bound for x in range(bound))
                self.look_at(bound, function, True)

    def test_noughts_alone(self):
        for bound in BOUNDS:
            self.same((), falls_of(bound, (0,) * bound))
            self.same((), poly_by(bound, (0,) * bound))
            self.same(True, is_told(bound, (0,) * bound))

    def test_known(self):
        self.same((1, 1), falls_of(4, (1, 2, 3, 0)))
        self.same((0, 1, 1), falls_of(5, (0, 1, 4, 4, 1)))
        self.same((0, 0, 1), poly_by(5, (0, 1, 4, 4, 1)))
        # By 4, 2 x x and 2 x have the same worths: the falls tell the shorter one.
        self.same((0, 2), poly_by(4, (0, 2, 0, 2)))
        self.same(False, is_told(4, (1, 0, 0, 0)))
        self.same(False, is_told(16, (0,) * 15 + (1,)))
        self.same((0, 1, 1), falls_of(16, tuple(x * x % 16 for x in range(16))))
