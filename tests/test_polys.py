"""2.1: polynomials, and their worths."""

import copy
import itertools

from onceeach.errors import NoBound, NoNumber, NoPoly
from onceeach.functions import is_function
from onceeach.polys import is_poly, poly_of, worth_at, worths
from tests.common import BOUNDS, NO_BOUNDS, Refusals, no_numbers, no_polys, some_polys


def summed(bound, poly, x):
    return sum(number * x ** k for k, number in enumerate(poly)) % bound


class TestIsPoly(Refusals):

    def test_arguments(self):
        self.takes(is_poly, "bound", "thing")
        self.same(True, is_poly(thing=(0, 1), bound=2))

    def test_polys(self):
        for bound in BOUNDS:
            for poly in some_polys(bound):
                self.same(True, is_poly(bound, poly))

    def test_no_polys(self):
        for bound in BOUNDS:
            for wrong in no_polys(bound):
                self.same(False, is_poly(bound, wrong))

    def test_edges(self):
        self.same(True, is_poly(2, ()))
        self.same(False, is_poly(2, []))
        self.same(False, is_poly(2, (0,)))
        self.same(False, is_poly(2, (1, 0)))
        self.same(False, is_poly(2, (2,)))
        self.same(True, is_poly(3, (2,)))
        self.same(False, is_poly(3, (True,)))
        self.same(False, is_poly(3, (False, 1)))
        self.same(True, is_poly(16, (15,) * 40))

    def test_no_bound_first(self):
        for wrong in NO_BOUNDS:
            self.refused(NoBound, is_poly, wrong, (1,))
            self.refused(NoBound, is_poly, wrong, None)

    def test_thing_stays(self):
        for thing in [[0, 1, 0], {0: [1]}, ([0], {1: [2]})]:
            kept = copy.deepcopy(thing)
            is_poly(2, thing)
            self.same(kept, thing)


class TestPolyOf(Refusals):

    def test_arguments(self):
        self.takes(poly_of, "bound", "things")
        self.same((0, 1), poly_of(things=[2, 3], bound=2))

    def test_known(self):
        self.same((), poly_of(5, []))
        self.same((), poly_of(5, [0]))
        self.same((), poly_of(5, [5, -10, 0, 10 ** 30]))
        self.same((4, 0, 2), poly_of(5, [-1, 5, 7]))
        self.same((4, 0, 2), poly_of(5, [-1, 5, 7, 10, 0, -25]))
        self.same((0, 0, 1), poly_of(16, [16, -32, 17, 0]))
        self.same((15, 1), poly_of(16, [-(10 ** 30) - 1, 10 ** 30 + 1]))

    def test_each_bound(self):
        for bound in BOUNDS:
            for things in itertools.product([-bound, -1, 0, 1, bound, 2 * bound + 1, 10 ** 31 - 1], repeat=3):
                told = poly_of(bound, list(things))
                self.same(True, is_poly(bound, told))
                padded = told + (0,) * (3 - len(told))
                self.same([number % bound for number in things], list(padded))

    def test_no_list_of_whole_numbers(self):
        wrong = [(), (1, 2), None, True, False, 0, 3, "", "1 2", {}, {1: 1}]
        for part in [None, True, False, "", "1", [], [1], (), (1,), {}]:
            wrong += [[part], [1, part], [part, 1], [1, part, 0]]
        for things in wrong:
            kept = copy.deepcopy(things)
            self.refused(NoPoly, poly_of, 5, things)
            self.same(kept, things)

    def test_no_bound_first(self):
        for wrong in NO_BOUNDS:
            self.refused(NoBound, poly_of, wrong, [1])
            self.refused(NoBound, poly_of, wrong, None)

    def test_list_stays_and_is_not_kept(self):
        things = [7, -1, 5, 0]
        told = poly_of(5, things)
        self.same([7, -1, 5, 0], things)
        things[0] = 3
        things.append(1)
        self.same((2, 4), told)
        self.same((2, 4), poly_of(5, [7, -1, 5, 0]))


class TestWorths(Refusals):

    def test_arguments(self):
        self.takes(worth_at, "bound", "poly", "number")
        self.takes(worths, "bound", "poly")
        self.same(1, worth_at(number=1, poly=(0, 1), bound=2))
        self.same((0, 1), worths(poly=(0, 1), bound=2))

    def test_each_number(self):
        for bound in BOUNDS:
            for poly in some_polys(bound):
                due = tuple(summed(bound, poly, x) for x in range(bound))
                self.same(due, tuple(worth_at(bound, poly, x) for x in range(bound)))
                self.same(due, worths(bound, poly))
                self.same(True, is_function(bound, worths(bound, poly)))

    def test_known(self):
        self.same((0,) * 7, worths(7, ()))
        self.same(0, worth_at(7, (), 3))
        self.same((3,) * 7, worths(7, (3,)))
        self.same((1, 2, 5, 4, 5, 2), worths(6, (1, 0, 1)))
        self.same(1, worth_at(5, (1, 1, 1), 0))

    def test_no_number(self):
        for bound in BOUNDS:
            for wrong in no_numbers(bound):
                for poly in [(), (1, 1)]:
                    self.refused(NoNumber, worth_at, bound, poly, wrong)

    def test_refused_from_the_left(self):
        for wrong in NO_BOUNDS:
            self.refused(NoBound, worth_at, wrong, (1,), 1)
            self.refused(NoBound, worth_at, wrong, None, None)
            self.refused(NoBound, worths, wrong, (1,))
            self.refused(NoBound, worths, wrong, None)
        for bound in BOUNDS:
            for wrong in no_polys(bound):
                self.refused(NoPoly, worth_at, bound, wrong, 1)
                self.refused(NoPoly, worth_at, bound, wrong, -1)
                self.refused(NoPoly, worths, bound, wrong)
