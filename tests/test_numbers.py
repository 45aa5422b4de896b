"""1.1: rest, raised, back_of and units, with 0.2."""

from onceeach.errors import Apart, NoBound, NoNumber
from onceeach.numbers import back_of, raised, rest, units
from tests.common import BOUNDS, MOST_TIMES, NO_BOUNDS, NO_TIMES, NO_WHOLE_NUMBERS, PRIMES, Refusals, no_numbers


class TestRest(Refusals):

    def test_arguments(self):
        self.takes(rest, "bound", "number")
        self.same(3, rest(number=13, bound=5))

    def test_each_bound(self):
        for bound in BOUNDS:
            for number in list(range(-50, 50)) + [10 ** 30, -(10 ** 30), 10 ** 31 - 1, 1 - 10 ** 31]:
                told = rest(bound, number)
                self.assertIn(told, range(bound))
                self.assertEqual(0, (number - told) % bound)

    def test_known(self):
        self.same(1, rest(2, -1))
        self.same(15, rest(16, -1))
        self.same(0, rest(16, 16))
        self.same(0, rest(10, 10 ** 30))
        self.same(3, rest(7, -(10 ** 30) - 3))

    def test_no_whole_number(self):
        for wrong in NO_WHOLE_NUMBERS:
            self.refused(NoNumber, rest, 5, wrong)

    def test_no_bound_first(self):
        for wrong in NO_BOUNDS:
            self.refused(NoBound, rest, wrong, 1)
            self.refused(NoBound, rest, wrong, None)


class TestRaised(Refusals):

    def test_arguments(self):
        self.takes(raised, "bound", "number", "k")
        self.same(2, raised(k=3, number=3, bound=5))

    def test_none_is_one(self):
        for bound in BOUNDS:
            for number in range(bound):
                self.same(1, raised(bound, number, 0))

    def test_against_pow(self):
        for bound in BOUNDS:
            for number in range(bound):
                for k in list(range(40)) + [10 ** 15 + 7, MOST_TIMES - 1, MOST_TIMES]:
                    self.assertEqual(pow(number, k, bound), raised(bound, number, k))

    def test_no_number(self):
        for bound in BOUNDS:
            for wrong in no_numbers(bound):
                self.refused(NoNumber, raised, bound, wrong, 1)

    def test_no_times(self):
        for wrong in NO_TIMES:
            self.refused(NoNumber, raised, 5, 2, wrong)
            self.refused(NoNumber, raised, 5, 0, wrong)

    def test_no_bound_first(self):
        for wrong in NO_BOUNDS:
            self.refused(NoBound, raised, wrong, 1, 1)
            self.refused(NoBound, raised, wrong, None, -1)


class TestBacks(Refusals):

    def test_arguments(self):
        self.takes(back_of, "bound", "number")
        self.takes(units, "bound")
        self.same(2, back_of(number=3, bound=5))
        self.same([1, 5], units(bound=6))

    def test_each_number(self):
        for bound in BOUNDS:
            with_back = []
            for number in range(bound):
                backs = [other for other in range(bound) if number * other % bound == 1]
                if backs:
                    self.same(backs[0], back_of(bound, number))
                    with_back.append(number)
                else:
                    self.refused(Apart, back_of, bound, number)
            self.same(with_back, units(bound))

    def test_known(self):
        self.same([1], units(2))
        self.same([1, 3, 5, 7, 9, 11, 13, 15], units(16))
        self.same([1, 5, 7, 11], units(12))
        for prime in PRIMES:
            self.same(list(range(1, prime)), units(prime))
        self.same(11, back_of(16, 3))

    def test_units_are_new_each_time(self):
        first = units(9)
        first.append(99)
        first[0] = 7
        self.same([1, 2, 4, 5, 7, 8], units(9))
        self.assertIsNot(units(9), units(9))

    def test_no_number(self):
        for bound in BOUNDS:
            for wrong in no_numbers(bound):
                self.refused(NoNumber, back_of, bound, wrong)

    def test_no_bound_first(self):
        for wrong in NO_BOUNDS:
            self.refused(NoBound, back_of, wrong, 1)
            self.refused(NoBound, back_of, wrong, None)
            self.refused(NoBound, units, wrong)
