"""2.2 and 2.3: sums, products, one within another, slopes, and what is shared."""

from math import gcd

from onceeach.errors import Apart, NoBound, NoPoly
from onceeach.polys import is_poly, worths
from onceeach.sums import plus, shared, slope, times, within
from tests.common import BOUNDS, NO_BOUNDS, PRIMES, Refusals, no_polys, some_polys


def settled(bound, numbers):
    """The polynomial of whole numbers, told by other means than the program's."""
    text = [number % bound for number in numbers]
    while text and text[-1] == 0:
        text.pop()
    return tuple(text)


def added(one, other):
    long = max(len(one), len(other))
    one, other = [list(row) + [0] * (long - len(row)) for row in (one, other)]
    return [a + b for a, b in zip(one, other)]


def multiplied(one, other):
    """The product over all whole numbers, place by place."""
    if not one or not other:
        return []
    places = range(len(one) + len(other) - 1)
    return [sum(one[j] * other[k - j] for j in range(len(one)) if 0 <= k - j < len(other)) for k in places]


def put_within(one, other):
    """Each number of one times other raised to its place, over all whole numbers."""
    whole, power = [], [1]
    for number in one:
        whole = added(whole, [number * part for part in power])
        power = multiplied(power, other)
    return whole


def pairs(bound):
    polys = some_polys(bound)
    return [(one, other) for one in polys[:18] for other in polys[-14:] + polys[:7]]


class TestSums(Refusals):

    def test_arguments(self):
        for call in (plus, times, within):
            self.takes(call, "bound", "one", "other")
        self.takes(slope, "bound", "poly")
        self.same((1, 2), plus(other=(0, 1), one=(1, 1), bound=3))
        self.same((0, 1, 1), times(other=(0, 1), one=(1, 1), bound=3))
        self.same((1, 0, 1), within(other=(0, 0, 1), one=(1, 1), bound=3))
        self.same((1,), slope(poly=(1, 1), bound=3))

    def test_each_bound(self):
        for bound in BOUNDS:
            for one, other in pairs(bound):
                self.same(settled(bound, added(one, other)), plus(bound, one, other))
                self.same(settled(bound, multiplied(one, other)), times(bound, one, other))

    def test_within_each_bound(self):
        for bound in BOUNDS:
            for one, other in pairs(bound):
                if len(one) * len(other) <= 60:
                    self.same(settled(bound, put_within(one, other)), within(bound, one, other))

    def test_within_and_worths(self):
        for bound in BOUNDS:
            for one, other in pairs(bound)[::7]:
                inner, outer = worths(bound, other), worths(bound, one)
                self.same(tuple(outer[worth] for worth in inner), worths(bound, within(bound, one, other)))

    def test_last_numbers_that_come_to_nought(self):
        self.same((), plus(6, (1, 2, 3), (5, 4, 3)))
        self.same((0, 1), plus(6, (1, 2, 3), (5, 5, 3)))
        self.same((), times(6, (2,), (3,)))
        self.same((2, 3, 3, 4), times(6, (2, 3), (1, 3, 0, 2)))
        self.same((0, 0, 1), times(4, (0, 1, 2), (0, 1, 2)))
        self.same((), times(16, (4, 8), (0, 4, 12)))
        self.same((1,), within(4, (1, 0, 1), (0, 2)))

    def test_nothing_and_one_number(self):
        for bound in BOUNDS:
            for poly in some_polys(bound):
                self.same(poly, plus(bound, poly, ()))
                self.same(poly, plus(bound, (), poly))
                self.same((), times(bound, poly, ()))
                self.same((), times(bound, (), poly))
                self.same(poly, times(bound, poly, (1,)))
                self.same((), within(bound, (), poly))
                self.same(settled(bound, poly[:1]), within(bound, poly, ()))
                self.same((bound - 1,), within(bound, (bound - 1,), poly))
                self.same(settled(bound, worths(bound, poly)[1:2]), within(bound, poly, (1,)))
                self.same(poly, within(bound, poly, (0, 1)))
                self.same(poly, within(bound, (0, 1), poly))

    def test_slope(self):
        for bound in BOUNDS:
            for poly in some_polys(bound):
                due = settled(bound, [(k + 1) * poly[k + 1] for k in range(len(poly) - 1)])
                self.same(due, slope(bound, poly))
        self.same((), slope(5, ()))
        self.same((), slope(5, (3,)))
        self.same((2,), slope(5, (3, 2)))
        self.same((), slope(5, (3, 0, 0, 0, 0, 4)))
        self.same((0, 1), slope(5, (3, 0, 3)))
        self.same((1,), slope(2, (1, 1, 1)))

    def test_refused_from_the_left(self):
        for wrong in NO_BOUNDS:
            for call in (plus, times, within, shared):
                self.refused(NoBound, call, wrong, (1,), (1,))
                self.refused(NoBound, call, wrong, None, None)
            self.refused(NoBound, slope, wrong, (1,))
            self.refused(NoBound, slope, wrong, None)
        for bound in (2, 5, 16):
            for wrong in no_polys(bound):
                for call in (plus, times, within, shared):
                    self.refused(NoPoly, call, bound, wrong, (1,))
                    self.refused(NoPoly, call, bound, (1,), wrong)
                    self.refused(NoPoly, call, bound, (), wrong)
                self.refused(NoPoly, slope, bound, wrong)

    def test_what_is_refused_stays(self):
        for call in (plus, times, within, shared):
            thing = [1, 2, [3]]
            self.refused(NoPoly, call, 5, thing, (1,))
            self.refused(NoPoly, call, 5, (1,), thing)
            self.same([1, 2, [3]], thing)

    def test_same_answer_again(self):
        asked = [(call, (1, 2, 3), (4, 1)) for call in (plus, times, within, shared)]
        first = [call(5, one, other) for call, one, other in asked]
        self.same(first[::-1], [call(5, one, other) for call, one, other in asked[::-1]])


class TestShared(Refusals):

    def test_arguments(self):
        self.takes(shared, "bound", "one", "other")
        self.same(((1,), (1,)), shared(other=(0, 1), one=(1, 1), bound=3))

    def test_each_bound(self):
        for bound in BOUNDS:
            for one, other in pairs(bound):
                if other == () or gcd(other[-1], bound) != 1:
                    self.refused(Apart, shared, bound, one, other)
                    continue
                told = shared(bound, one, other)
                self.assertIs(tuple, type(told))
                often, left = told
                self.same(True, is_poly(bound, often))
                self.same(True, is_poly(bound, left))
                self.assertLess(len(left), len(other))
                self.same(one, settled(bound, added(multiplied(often, other), left)))

    def test_by_primes_each_last_number_has_a_back(self):
        for prime in PRIMES:
            for last in range(1, prime):
                often, left = shared(prime, (1, 1, 1, 1), (1, last))
                self.assertLess(len(left), 2)
                self.same((1, 1, 1, 1), settled(prime, added(multiplied(often, (1, last)), left)))

    def test_known(self):
        self.same(((6, 1), ()), shared(7, (6, 0, 1), (1, 1)))
        self.same(((5, 5), (3,)), shared(6, (2, 4, 5), (1, 1)))
        self.same(((0, 3), (2, 4)), shared(8, (2, 4, 1, 1), (0, 3, 3)))
        self.same(((), (1, 2)), shared(6, (1, 2), (0, 0, 1)))
        self.same(((), ()), shared(6, (), (0, 0, 1)))
        self.same(((), ()), shared(6, (), (5,)))
        self.same(((5, 4), ()), shared(6, (1, 2), (5,)))

    def test_apart_without_a_back(self):
        for one in [(), (1,), (1, 2, 3), (2,)]:
            self.refused(Apart, shared, 4, one, ())
            self.refused(Apart, shared, 4, one, (2,))
            self.refused(Apart, shared, 4, one, (1, 1, 1, 2))
            self.refused(Apart, shared, 5, one, ())
        self.refused(Apart, shared, 6, (0, 3), (3,))
        self.refused(Apart, shared, 15, (), (0, 5))

    def test_apart_behind_no_poly(self):
        self.refused(NoPoly, shared, 4, (0,), ())
        self.refused(NoPoly, shared, 4, [2], (2,))
        self.refused(NoPoly, shared, 4, None, (1, 2))
