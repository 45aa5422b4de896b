"""7.1 and 7.2: how many functions are once, and the number of each."""

import itertools
from math import factorial

from onceeach.counts import nth_once, number_of, once_many, once_told_many
from onceeach.errors import Apart, NoBound, NoFunction, NoNumber, TooGreat
from onceeach.functions import is_function, is_once
from tests.common import (
    BOUNDS, NO_BOUNDS, NO_WHOLE_NUMBERS, Refusals, all_functions, all_polys, identity, no_functions, some_functions,
    with_at, worths_due,
)


def fall(x, k):
    """x (x - 1) .. (x - k + 1)."""
    product = 1
    for j in range(k):
        product *= x - j
    return product


def far_numbers(bound):
    """Numbers of functions that are once, from all over where there are many."""
    last = factorial(bound) - 1
    return sorted({0, 1, last // 3, last // 2, last // 2 + 1, last - 1, last} | {last * k // 97 for k in range(97)})


class TestOnceMany(Refusals):

    def test_arguments(self):
        self.takes(once_many, "bound")
        self.same(2, once_many(bound=2))

    def test_each_bound(self):
        for bound in BOUNDS:
            self.same(factorial(bound), once_many(bound))
        self.same(20922789888000, once_many(16))

    def test_against_all_functions(self):
        for bound in (2, 3, 4, 5, 6):
            many = sum(len(set(function)) == bound for function in all_functions(bound))
            self.same(many, once_many(bound))

    def test_no_bound(self):
        for wrong in NO_BOUNDS:
            self.refused(NoBound, once_many, wrong)


class TestOnceToldMany(Refusals):

    def test_arguments(self):
        self.takes(once_told_many, "bound")
        self.same(8, once_told_many(bound=4))

    def test_each_bound(self):
        self.same([2, 6, 8, 120, 12, 5040, 128, 1296], [once_told_many(bound) for bound in range(2, 10)])

    def test_against_all_functions(self):
        # So many numbers are enough for a polynomial of each told function: x (x - 1) .. is 0 throughout behind them.
        for bound, many in ((2, 2), (3, 3), (4, 4), (5, 5), (6, 3)):
            told = {worths_due(bound, poly) for poly in all_polys(bound, many)}
            self.same(sum(len(set(function)) == bound for function in told), once_told_many(bound))
            self.same(sum(function in told for function in itertools.permutations(range(bound))), once_told_many(bound))

    def test_eight_and_nine_against_sums_of_falls(self):
        # Each told function is one such sum, and each is told: 3.2.
        for bound, tops in ((8, (8, 8, 4, 4)), (9, (9, 9, 9, 3, 3, 3))):
            found = set()
            for often in itertools.product(*map(range, tops)):
                function = tuple(sum(c * fall(x, k) for k, c in enumerate(often)) % bound for x in range(bound))
                found.add(function)
            self.same(sum(len(set(function)) == bound for function in found), once_told_many(bound))

    def test_too_great(self):
        for bound in range(10, 17):
            why = self.refused(TooGreat, once_told_many, bound)
            self.same((bound, 9), (why.many, why.most))

    def test_no_bound_first(self):
        for wrong in NO_BOUNDS:
            self.refused(NoBound, once_told_many, wrong)


class TestNthOnce(Refusals):

    def test_arguments(self):
        self.takes(nth_once, "bound", "number")
        self.same((1, 0), nth_once(number=1, bound=2))

    def test_against_all_functions(self):
        for bound in (2, 3, 4, 5):
            once = [function for function in all_functions(bound) if len(set(function)) == bound]
            self.same(sorted(once), [nth_once(bound, number) for number in range(len(once))])

    def test_all_by_six_and_seven(self):
        for bound in (6, 7):
            for number, function in enumerate(itertools.permutations(range(bound))):
                self.same(function, nth_once(bound, number))

    def test_ends(self):
        for bound in BOUNDS:
            self.same(identity(bound), nth_once(bound, 0))
            self.same(identity(bound)[::-1], nth_once(bound, factorial(bound) - 1))

    def test_last_places(self):
        for bound in BOUNDS[1:]:
            turned = identity(bound)
            self.same(turned[:-2] + (bound - 1, bound - 2), nth_once(bound, 1))
            # Behind all that begin with 0 comes the first that begins with 1.
            self.same((1, 0) + turned[2:], nth_once(bound, factorial(bound - 1)))
            self.same((0,) + turned[:0:-1], nth_once(bound, factorial(bound - 1) - 1))

    def test_rising_by_great_bounds(self):
        for bound in BOUNDS[5:]:
            told = [nth_once(bound, number) for number in far_numbers(bound)]
            self.same(sorted(set(told)), told)
            self.same([], [function for function in told if not is_function(bound, function)])
            self.same([], [function for function in told if not is_once(bound, function)])

    def test_sixteen_is_reckoned(self):
        due = (7, 15) + tuple(x for x in range(16) if x not in (7, 15))
        self.same(due, nth_once(16, 7 * factorial(15) + 14 * factorial(14)))

    def test_none_there(self):
        for bound in BOUNDS:
            for wrong in [factorial(bound), factorial(bound) + 1, -1, -factorial(bound), 10 ** 30] + NO_WHOLE_NUMBERS:
                self.refused(NoNumber, nth_once, bound, wrong)

    def test_no_bound_first(self):
        for wrong in NO_BOUNDS:
            self.refused(NoBound, nth_once, wrong, 0)
            self.refused(NoBound, nth_once, wrong, -1)
            self.refused(NoBound, nth_once, wrong, None)


class TestNumberOf(Refusals):

    def test_arguments(self):
        self.takes(number_of, "bound", "function")
        self.same(1, number_of(function=(1, 0), bound=2))

    def test_all_by_few(self):
        for bound in (2, 3, 4, 5, 6):
            for number, function in enumerate(itertools.permutations(range(bound))):
                self.same(number, number_of(bound, function))

    def test_other_way_about(self):
        for bound in BOUNDS:
            for number in far_numbers(bound):
                self.same(number, number_of(bound, nth_once(bound, number)))

    def test_known(self):
        for bound in BOUNDS:
            self.same(0, number_of(bound, identity(bound)))
            self.same(factorial(bound) - 1, number_of(bound, identity(bound)[::-1]))
        self.same(factorial(15), number_of(16, (1, 0) + identity(16)[2:]))

    def test_apart_where_not_once(self):
        for bound in BOUNDS:
            for function in some_functions(bound):
                if len(set(function)) < bound:
                    self.refused(Apart, number_of, bound, function)
            self.refused(Apart, number_of, bound, with_at(identity(bound), 0, 1))
            self.refused(Apart, number_of, bound, with_at(identity(bound), bound - 1, 0))

    def test_refused_from_the_left(self):
        for wrong in NO_BOUNDS:
            self.refused(NoBound, number_of, wrong, (0, 1))
            self.refused(NoBound, number_of, wrong, (0, 0))
            self.refused(NoBound, number_of, wrong, None)
        for bound in (2, 5, 16):
            for wrong in no_functions(bound):
                self.refused(NoFunction, number_of, bound, wrong)

    def test_what_is_refused_stays(self):
        thing = [1, 0, [2]]
        self.refused(NoFunction, number_of, 3, thing)
        self.refused(NoNumber, nth_once, 3, thing)
        self.same([1, 0, [2]], thing)

    def test_same_answer_again(self):
        numbers = far_numbers(12)
        first = [nth_once(12, number) for number in numbers]
        self.same(first[::-1], [nth_once(12, number) for number in numbers[::-1]])
        self.same(numbers, [number_of(12, function) for function in first])
