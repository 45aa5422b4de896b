"""9.3: complete functions."""

import itertools

from onceeach.complete import complete_from, complete_many, is_complete
from onceeach.errors import NoBound, NoFunction, TooGreat
from tests.common import (
    BOUNDS, NO_BOUNDS, Refusals, all_functions, identity, no_functions, no_numbers, some_functions, with_at,
)

BOUNDS_TAKEN = (2, 3, 4, 5, 6, 7)


def complete_due(bound, function):
    put_to = {(worth + x) % bound for x, worth in enumerate(function)}
    return len(set(function)) == bound and len(put_to) == bound


def all_complete(bound):
    """All complete functions, rising."""
    return [function for function in itertools.permutations(range(bound)) if complete_due(bound, function)]


class TestIsComplete(Refusals):

    def test_arguments(self):
        self.takes(is_complete, "bound", "function")
        self.same(True, is_complete(function=(0, 1, 2), bound=3))

    def test_each_bound(self):
        for bound in BOUNDS:
            for function in some_functions(bound):
                self.same(complete_due(bound, function), is_complete(bound, function))

    def test_lines(self):
        for bound in BOUNDS:
            for a in range(bound):
                for b in (0, 1, bound - 1):
                    function = tuple((a * x + b) % bound for x in range(bound))
                    self.same(complete_due(bound, function), is_complete(bound, function))
        self.same(True, is_complete(15, identity(15)))
        self.same(False, is_complete(16, identity(16)))
        self.same(False, is_complete(15, identity(15)[::-1]))

    def test_all_by_few(self):
        for bound in (2, 3, 4, 5):
            for function in all_functions(bound):
                self.same(complete_due(bound, function), is_complete(bound, function))

    def test_none_by_even_bounds(self):
        for bound in (2, 4, 6):
            for function in itertools.permutations(range(bound)):
                self.same(False, is_complete(bound, function))

    def test_each_half_is_wanted(self):
        # With its number put to it this one is once, but it is not itself.
        self.same(False, is_complete(3, (0, 0, 0)))
        # This one is once, but with its number put to it it is not.
        self.same(False, is_complete(3, (0, 2, 1)))

    def test_refused_from_the_left(self):
        for wrong in NO_BOUNDS:
            self.refused(NoBound, is_complete, wrong, (0, 1))
            self.refused(NoBound, is_complete, wrong, None)
        for bound in (2, 7, 8, 16):
            for wrong in no_functions(bound):
                self.refused(NoFunction, is_complete, bound, wrong)


class TestCompleteFrom(Refusals):

    def test_arguments(self):
        self.takes(complete_from, "bound", "ahead")
        self.same((0, 1, 2), complete_from(ahead=(), bound=3))

    def look_at(self, bound, every, ahead):
        due = next((function for function in every if function[:len(ahead)] == ahead), None)
        self.same(due, complete_from(bound, ahead))
        return due is None

    def test_short_beginnings(self):
        for bound in BOUNDS_TAKEN:
            every = all_complete(bound)
            for many in range(min(bound, 3) + 1):
                looks = [self.look_at(bound, every, ahead) for ahead in itertools.product(range(bound), repeat=many)]
                self.same(bound % 2 == 0, all(looks))

    def test_all_beginnings_by_few(self):
        for bound in (2, 3, 4, 5):
            every = all_complete(bound)
            for many in range(bound + 1):
                for ahead in itertools.product(range(bound), repeat=many):
                    self.look_at(bound, every, ahead)

    def test_beginnings_of_complete_ones(self):
        for bound in (3, 5, 7):
            every = all_complete(bound)
            for function in every:
                for many in range(bound + 1):
                    self.same(False, self.look_at(bound, every, function[:many]))
                self.same(function, complete_from(bound, function))

    def test_whole_functions_that_are_not_complete(self):
        for bound in BOUNDS_TAKEN:
            every = all_complete(bound)
            for function in some_functions(bound):
                self.look_at(bound, every, function)
            for function in itertools.permutations(range(bound)):
                if bound < 6:
                    self.look_at(bound, every, function)

    def test_none_by_even_bounds(self):
        for bound in (2, 4, 6):
            for ahead in [(), (0,), (bound - 1,), (1, 0), identity(bound)]:
                self.same(None, complete_from(bound, ahead))

    def test_known(self):
        for bound in (3, 5, 7):
            self.same(identity(bound), complete_from(bound, ()))
        self.same(None, complete_from(7, (0, 6)))
        self.same(None, complete_from(7, (0, 0)))
        self.same((6, 0, 1, 2, 3, 4, 5), complete_from(7, (6,)))

    def test_no_beginning(self):
        for bound in BOUNDS_TAKEN:
            one = identity(bound)
            found = [list(one), [], None, True, False, 0, bound, "", "0 1", "none", {}, {0: 0}, one + (0,), (0,) * 17]
            found += [(one,), ((),), [0], [()]]
            for wrong in no_numbers(bound):
                found += [(wrong,), (0, wrong), (wrong, 0), with_at(one, bound - 1, wrong)]
            for wrong in found:
                self.refused(NoFunction, complete_from, bound, wrong)

    def test_what_is_refused_stays(self):
        thing = [0, 1, [2]]
        self.refused(NoFunction, complete_from, 3, thing)
        self.refused(NoFunction, is_complete, 3, thing)
        self.same([0, 1, [2]], thing)

    def test_same_answer_again(self):
        asked = [(a, b) for a in range(7) for b in range(7)]
        first = [complete_from(7, ahead) for ahead in asked]
        self.same(first[::-1], [complete_from(7, ahead) for ahead in asked[::-1]])


class TestCompleteMany(Refusals):

    def test_arguments(self):
        self.takes(complete_many, "bound")
        self.same(3, complete_many(bound=3))

    def test_each_bound(self):
        self.same([0, 3, 0, 15, 0, 133], [complete_many(bound) for bound in BOUNDS_TAKEN])
        for bound in BOUNDS_TAKEN:
            self.same(len(all_complete(bound)), complete_many(bound))


class TestRefusedOfBoth(Refusals):

    def test_no_bound_first(self):
        for wrong in NO_BOUNDS:
            self.refused(NoBound, complete_many, wrong)
            self.refused(NoBound, complete_from, wrong, ())
            self.refused(NoBound, complete_from, wrong, None)

    def test_too_great_ahead_of_no_function(self):
        for bound in range(8, 17):
            why = self.refused(TooGreat, complete_many, bound)
            self.same((bound, 7), (why.many, why.most))
            for ahead in ((), (0,), identity(bound), None, [], (bound,), (0,) * 17):
                why = self.refused(TooGreat, complete_from, bound, ahead)
                self.same((bound, 7), (why.many, why.most))
