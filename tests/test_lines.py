"""6.1: lines."""

import itertools
from math import gcd

from onceeach.errors import NoBound, NoFunction, NoNumber
from onceeach.functions import is_once
from onceeach.lines import is_line, line
from tests.common import BOUNDS, NO_BOUNDS, Refusals, identity, no_functions, no_numbers, some_functions, with_at


def all_lines(bound):
    """Each line by a bound, and the numbers a and b of it."""
    found = {}
    for a, b in itertools.product(range(bound), repeat=2):
        found[tuple((a * x + b) % bound for x in range(bound))] = (a, b)
    return found


class TestLine(Refusals):

    def test_arguments(self):
        self.takes(line, "bound", "a", "b")
        self.same((1, 0, 2), line(b=1, a=2, bound=3))

    def test_each_bound(self):
        for bound in BOUNDS:
            for function, (a, b) in all_lines(bound).items():
                self.same(function, line(bound, a, b))

    def test_noughts(self):
        for bound in BOUNDS:
            self.same((0,) * bound, line(bound, 0, 0))
            self.same((bound - 1,) * bound, line(bound, 0, bound - 1))
            self.same(identity(bound), line(bound, 1, 0))
            self.same((0,) + identity(bound)[:0:-1], line(bound, bound - 1, 0))

    def test_once_where_a_has_a_back(self):
        for bound in BOUNDS:
            for a, b in itertools.product(range(bound), repeat=2):
                self.same(gcd(a, bound) == 1, is_once(bound, line(bound, a, b)))

    def test_no_numbers(self):
        for bound in BOUNDS:
            for wrong in no_numbers(bound):
                self.refused(NoNumber, line, bound, wrong, 0)
                self.refused(NoNumber, line, bound, 0, wrong)
                self.refused(NoNumber, line, bound, wrong, wrong)

    def test_refused_from_the_left(self):
        for wrong in NO_BOUNDS:
            self.refused(NoBound, line, wrong, 0, 1)
            self.refused(NoBound, line, wrong, None, None)

    def test_same_answer_again(self):
        asked = list(itertools.product(range(6), repeat=2))
        first = [line(6, a, b) for a, b in asked]
        self.same(first[::-1], [line(6, a, b) for a, b in asked[::-1]])


class TestIsLine(Refusals):

    def test_arguments(self):
        self.takes(is_line, "bound", "function")
        self.same((2, 1), is_line(function=(1, 0, 2), bound=3))

    def test_lines(self):
        for bound in BOUNDS:
            for function, told in all_lines(bound).items():
                self.same(told, is_line(bound, function))

    def test_no_lines(self):
        for bound in BOUNDS:
            lines = all_lines(bound)
            for function in some_functions(bound):
                self.same(lines.get(function), is_line(bound, function))

    def test_one_worth_off(self):
        # By 2 each function is a line; by more, a line with one worth off is none.
        for bound in BOUNDS[1:]:
            for at in range(bound):
                function = with_at(identity(bound), at, (at + 1) % bound)
                self.same(all_lines(bound).get(function), is_line(bound, function))
                self.same(None, is_line(bound, function))

    def test_all_by_few(self):
        for bound in (2, 3, 4, 5):
            lines = all_lines(bound)
            for function in itertools.product(range(bound), repeat=bound):
                self.same(lines.get(function), is_line(bound, function))

    def test_each_by_two(self):
        self.same([(0, 0), (1, 0), (1, 1), (0, 1)], [is_line(2, f) for f in ((0, 0), (0, 1), (1, 0), (1, 1))])

    def test_known(self):
        self.same((15, 3), is_line(16, tuple((3 - x) % 16 for x in range(16))))
        self.same(None, is_line(4, (0, 1, 0, 1)))
        self.same((2, 0), is_line(4, (0, 2, 0, 2)))
        self.same(None, is_line(3, (0, 1, 1)))

    def test_refused_from_the_left(self):
        for wrong in NO_BOUNDS:
            self.refused(NoBound, is_line, wrong, (0, 1))
            self.refused(NoBound, is_line, wrong, None)
        for bound in (2, 3, 16):
            for wrong in no_functions(bound):
                self.refused(NoFunction, is_line, bound, wrong)

    def test_what_is_refused_stays(self):
        thing = [0, 1, [2]]
        self.refused(NoFunction, is_line, 3, thing)
        self.same([0, 1, [2]], thing)

    def test_same_answer_again(self):
        functions = some_functions(7)
        first = [is_line(7, function) for function in functions]
        self.same(first[::-1], [is_line(7, function) for function in functions[::-1]])
