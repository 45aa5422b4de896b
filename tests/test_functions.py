"""1.2 and 1.3: functions, putting in, doing again, once, clashes and turning back."""

import copy

from onceeach.errors import Apart, NoBound, NoFunction, NoNumber
from onceeach.functions import again, first_clash, is_function, is_once, missed, put_in, turned_back
from tests.common import (
    BOUNDS, MOST_TIMES, NO_BOUNDS, NO_TIMES, Refusals, all_functions, identity, no_functions, some_functions,
)


class TestIsFunction(Refusals):

    def test_arguments(self):
        self.takes(is_function, "bound", "thing")
        self.same(True, is_function(thing=(0, 1), bound=2))

    def test_functions(self):
        for bound in BOUNDS:
            for function in some_functions(bound):
                self.same(True, is_function(bound, function))

    def test_no_functions(self):
        for bound in BOUNDS:
            for wrong in no_functions(bound):
                self.same(False, is_function(bound, wrong))

    def test_by_another_bound(self):
        self.same(False, is_function(3, (0, 1)))
        self.same(False, is_function(2, (0, 1, 1)))
        self.same(False, is_function(2, (0, 2)))
        self.same(False, is_function(2, (False, True)))
        self.same(False, is_function(2, [0, 1]))

    def test_no_bound_first(self):
        for wrong in NO_BOUNDS:
            self.refused(NoBound, is_function, wrong, (0, 1))
            self.refused(NoBound, is_function, wrong, None)

    def test_thing_stays(self):
        for thing in [[0, 1], {0: [1]}, ([0], {1: [2]})]:
            kept = copy.deepcopy(thing)
            is_function(2, thing)
            self.same(kept, thing)


class TestPutIn(Refusals):

    def test_arguments(self):
        self.takes(put_in, "bound", "one", "other")
        self.same((1, 1), put_in(other=(0, 0), one=(1, 0), bound=2))

    def test_second_is_done_first(self):
        self.same((2, 2, 2), put_in(3, (2, 1, 0), (0, 0, 0)))
        self.same((0, 0, 0), put_in(3, (0, 0, 0), (2, 1, 0)))
        self.same((0, 2, 1), put_in(3, (1, 0, 2), (1, 2, 0)))

    def test_all_by_three(self):
        for one in all_functions(3):
            for other in all_functions(3):
                self.same(tuple(one[other[x]] for x in range(3)), put_in(3, one, other))

    def test_great_bounds(self):
        for bound in BOUNDS:
            for one in some_functions(bound):
                for other in some_functions(bound)[:9]:
                    told = put_in(bound, one, other)
                    self.same([one[other[x]] for x in range(bound)], list(told))

    def test_refused_from_the_left(self):
        for wrong in NO_BOUNDS:
            self.refused(NoBound, put_in, wrong, (0, 1), (0, 1))
            self.refused(NoBound, put_in, wrong, None, None)
        for bound in (2, 3, 16):
            for wrong in no_functions(bound):
                self.refused(NoFunction, put_in, bound, wrong, identity(bound))
                self.refused(NoFunction, put_in, bound, identity(bound), wrong)


class TestAgain(Refusals):

    def test_arguments(self):
        self.takes(again, "bound", "function", "k")
        self.same((2, 0, 1), again(k=2, function=(1, 2, 0), bound=3))

    def test_none_at_all(self):
        for bound in BOUNDS:
            for function in some_functions(bound):
                self.same(identity(bound), again(bound, function, 0))

    def test_few_times(self):
        for bound in BOUNDS:
            for function in some_functions(bound):
                due = identity(bound)
                for k in range(20):
                    self.same(due, again(bound, function, k))
                    due = tuple(function[worth] for worth in due)

    def test_great_times(self):
        # A turn of 16 numbers comes round after 16 doings, one of 13 after 13.
        for bound in BOUNDS:
            turn = identity(bound)[1:] + (0,)
            for k in (MOST_TIMES, MOST_TIMES - 1, 10 ** 15 + 1, 123456789):
                self.same(tuple((x + k) % bound for x in range(bound)), again(bound, turn, k))

    def test_great_times_of_what_ends(self):
        self.same((0,) * 16, again(16, (0,) + tuple(range(15)), MOST_TIMES))
        self.same((1, 0, 0, 1), again(4, (1, 0, 0, 1), MOST_TIMES - 1))
        self.same((0, 1, 1, 0), again(4, (1, 0, 0, 1), MOST_TIMES))

    def test_no_times(self):
        for wrong in NO_TIMES:
            self.refused(NoNumber, again, 3, (1, 2, 0), wrong)

    def test_refused_from_the_left(self):
        for wrong in NO_BOUNDS:
            self.refused(NoBound, again, wrong, (0, 1), 1)
            self.refused(NoBound, again, wrong, None, None)
        for bound in (2, 3, 16):
            for wrong in no_functions(bound):
                self.refused(NoFunction, again, bound, wrong, 1)
                self.refused(NoFunction, again, bound, wrong, -1)


class TestOnce(Refusals):

    def test_arguments(self):
        for call in (is_once, first_clash, missed, turned_back):
            self.takes(call, "bound", "function")
        self.same(True, is_once(function=(1, 0), bound=2))
        self.same((0, 1), first_clash(function=(1, 1), bound=2))
        self.same((0,), missed(function=(1, 1), bound=2))
        self.same((1, 0), turned_back(function=(1, 0), bound=2))

    def look_at(self, bound, function):
        clashes = [(a, b) for a in range(bound) for b in range(a + 1, bound) if function[a] == function[b]]
        gone = tuple(sorted(set(range(bound)) - set(function)))
        self.same(not clashes, is_once(bound, function))
        self.same(min(clashes, default=None), first_clash(bound, function))
        self.same(gone, missed(bound, function))
        if clashes:
            self.refused(Apart, turned_back, bound, function)
        else:
            back = turned_back(bound, function)
            self.same(True, is_function(bound, back))
            self.assertTrue(all(back[function[x]] == x for x in range(bound)))

    def test_all_by_few(self):
        for bound in (2, 3, 4):
            for function in all_functions(bound):
                self.look_at(bound, function)

    def test_each_bound(self):
        for bound in BOUNDS:
            for function in some_functions(bound):
                self.look_at(bound, function)

    def test_known(self):
        self.same((0, 3), first_clash(4, (2, 1, 1, 2)))
        self.same((1, 2), first_clash(4, (2, 1, 1, 3)))
        self.same((14, 15), first_clash(16, identity(15) + (14,)))
        self.same((0, 3), missed(4, (2, 1, 1, 2)))
        self.same((), missed(4, (3, 2, 0, 1)))
        self.same((2, 3, 1, 0), turned_back(4, (3, 2, 0, 1)))

    def test_refused_from_the_left(self):
        for call in (is_once, first_clash, missed, turned_back):
            for wrong in NO_BOUNDS:
                self.refused(NoBound, call, wrong, (0, 1))
                self.refused(NoBound, call, wrong, None)
            for bound in (2, 3, 16):
                for wrong in no_functions(bound):
                    self.refused(NoFunction, call, bound, wrong)

    def test_what_is_refused_stays(self):
        for call in (is_once, first_clash, missed, turned_back):
            thing = [1, 0, [2]]
            self.refused(NoFunction, call, 3, thing)
            self.same([1, 0, [2]], thing)

    def test_same_answer_again(self):
        asked = [(is_once, (1, 0, 2)), (first_clash, (1, 1, 2)), (missed, (1, 1, 2)), (turned_back, (1, 2, 0))]
        first = [call(3, function) for call, function in asked]
        self.same([True, (0, 1), (0,), (2, 0, 1)], first)
        self.same(first[::-1], [call(3, function) for call, function in asked[::-1]])
