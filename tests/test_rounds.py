"""5.1 and 5.2: rounds, orders, even ones, fixed numbers, and courses."""

import itertools
from math import lcm

from onceeach.errors import Apart, NoBound, NoFunction
from onceeach.functions import again
from onceeach.rounds import course, fixed, is_even, order_of, rounds_of
from tests.common import BOUNDS, NO_BOUNDS, Refusals, identity, no_functions, some_functions

OF_ONCE = (rounds_of, order_of, is_even)
ALL = OF_ONCE + (fixed, course)


def from_rounds(bound, rounds):
    """The function that has these rounds, all other numbers being their own worth."""
    function = list(range(bound))
    for numbers in rounds:
        for ahead, after in zip(numbers, numbers[1:] + numbers[:1]):
            function[ahead] = after
    return tuple(function)


def once_functions(bound):
    """Functions of many kinds by a bound that are once."""
    found = [function for function in some_functions(bound) if len(set(function)) == bound]
    for a in range(1, 6):
        keys = [(x * (a + 2) * (x + a) % 17, x) for x in range(bound)]
        found.append(tuple(x for key, x in sorted(keys)))
    return found


def turned_over(function):
    """How many pairs of numbers have worths the other way round."""
    return sum(function[a] > function[b] for a, b in itertools.combinations(range(len(function)), 2))


def course_due(bound, function):
    """The course found by doing the function one by one and comparing each with all ahead."""
    done = [identity(bound)]
    while True:
        after = tuple(function[worth] for worth in done[-1])
        if after in done:
            return (done.index(after), len(done) - done.index(after))
        done.append(after)


class TestRounds(Refusals):

    def test_arguments(self):
        for call in ALL:
            self.takes(call, "bound", "function")
        self.same([(0, 1)], rounds_of(function=(1, 0), bound=2))
        self.same(2, order_of(function=(1, 0), bound=2))
        self.same(False, is_even(function=(1, 0), bound=2))
        self.same((), fixed(function=(1, 0), bound=2))
        self.same((0, 2), course(function=(1, 0), bound=2))

    def look_at(self, bound, function):
        told = rounds_of(bound, function)
        self.assertIs(list, type(told))
        self.assertTrue(all(type(numbers) is tuple for numbers in told))
        self.same(list(range(bound)), sorted(number for numbers in told for number in numbers))
        self.assertTrue(all(numbers[0] == min(numbers) for numbers in told))
        self.assertEqual(sorted(told), told)
        self.same(function, from_rounds(bound, told))
        self.same(lcm(*[len(numbers) for numbers in told]), order_of(bound, function))
        self.same((0, order_of(bound, function)), course(bound, function))
        self.same((bound - len(told)) % 2 == 0, is_even(bound, function))
        self.same(turned_over(function) % 2 == 0, is_even(bound, function))

    def test_each_bound(self):
        for bound in BOUNDS:
            for function in once_functions(bound):
                self.look_at(bound, function)

    def test_all_by_few(self):
        for bound in (2, 3, 4, 5, 6):
            for function in itertools.permutations(range(bound)):
                self.look_at(bound, function)

    def test_order_by_doing(self):
        for bound in BOUNDS:
            for function in once_functions(bound):
                order = order_of(bound, function)
                self.same(identity(bound), again(bound, function, order))
                for k in range(1, order):
                    self.assertNotEqual(identity(bound), again(bound, function, k))

    def test_each_number_its_own_worth(self):
        for bound in BOUNDS:
            one = identity(bound)
            self.same([(number,) for number in range(bound)], rounds_of(bound, one))
            self.same(1, order_of(bound, one))
            self.same(True, is_even(bound, one))
            self.same(one, fixed(bound, one))
            self.same((0, 1), course(bound, one))

    def test_known(self):
        great = from_rounds(16, [(0, 3, 6), (1, 15, 14, 2), (4, 9, 7, 8, 5)])
        due = [(0, 3, 6), (1, 15, 14, 2), (4, 9, 7, 8, 5), (10,), (11,), (12,), (13,)]
        self.same(due, rounds_of(16, great))
        self.same(60, order_of(16, great))
        self.same(False, is_even(16, great))
        self.same((10, 11, 12, 13), fixed(16, great))
        longest = from_rounds(16, [(0, 1, 2, 3), (4, 5, 6, 7, 8), (9, 10, 11, 12, 13, 14, 15)])
        self.same(140, order_of(16, longest))
        self.same(False, is_even(16, longest))
        # Where two rounds have lengths with a shared part, the order is less than the product of them.
        self.same(12, order_of(10, from_rounds(10, [(0, 1, 2, 3), (4, 5, 6, 7, 8, 9)])))
        self.same([(0, 2, 1)], rounds_of(3, (2, 0, 1)))
        self.same(True, is_even(3, (2, 0, 1)))
        self.same(False, is_even(3, (1, 0, 2)))

    def test_apart_where_not_once(self):
        for bound in BOUNDS:
            for function in some_functions(bound) + [(0,) * bound, identity(bound)[:-1] + (0,)]:
                if len(set(function)) < bound:
                    for call in OF_ONCE:
                        self.refused(Apart, call, bound, function)

    def test_refused_from_the_left(self):
        for call in ALL:
            for wrong in NO_BOUNDS:
                self.refused(NoBound, call, wrong, (0, 1))
                self.refused(NoBound, call, wrong, None)
            for bound in (2, 3, 16):
                for wrong in no_functions(bound):
                    self.refused(NoFunction, call, bound, wrong)
                # Not once either: that it is no function is said first.
                self.refused(NoFunction, call, bound, [0] * bound)
                self.refused(NoFunction, call, bound, (0,) * (bound + 1))

    def test_list_is_new(self):
        function = (1, 0, 2, 4, 3)
        told = rounds_of(5, function)
        told.append((5,))
        told[0] = None
        self.same([(0, 1), (2,), (3, 4)], rounds_of(5, function))
        self.assertIsNot(rounds_of(5, function), rounds_of(5, function))
        self.same((2, False), (order_of(5, function), not is_even(5, function)))
        self.same((1, 0, 2, 4, 3), function)

    def test_what_is_refused_stays(self):
        for call in ALL:
            thing = [1, 0, [2]]
            self.refused(NoFunction, call, 3, thing)
            self.same([1, 0, [2]], thing)

    def test_same_answer_again(self):
        asked = [(call, function) for call in ALL for function in once_functions(9)]
        first = [call(9, function) for call, function in asked]
        self.same(first[::-1], [call(9, function) for call, function in asked[::-1]])


class TestFixed(Refusals):

    def test_any_function(self):
        for bound in BOUNDS:
            for function in some_functions(bound):
                self.same(tuple(x for x, worth in enumerate(function) if worth == x), fixed(bound, function))

    def test_known(self):
        self.same((3,), fixed(5, (3, 3, 3, 3, 3)))
        self.same((), fixed(3, (1, 2, 1)))
        self.same((0, 15), fixed(16, (0,) + (15,) * 15))


class TestCourse(Refusals):

    def look_at(self, bound, function):
        told = course(bound, function)
        self.same(course_due(bound, function), told)
        ahead, long = told
        self.same(again(bound, function, ahead), again(bound, function, ahead + long))

    def test_each_bound(self):
        for bound in BOUNDS:
            for function in some_functions(bound):
                self.look_at(bound, function)

    def test_all_by_few(self):
        for bound in (2, 3, 4):
            for function in itertools.product(range(bound), repeat=bound):
                self.look_at(bound, function)

    def test_its_own_doing_twice(self):
        for bound in BOUNDS:
            for function in [(0,) * bound, (bound - 1,) * bound, (0,) + identity(bound)[:1] + identity(bound)[2:]]:
                self.same(function, again(bound, function, 2))
                self.same((1, 1), course(bound, function))

    def test_known(self):
        self.same((0, 5), course(5, (1, 2, 3, 4, 0)))
        self.same((4, 1), course(5, (0, 0, 1, 2, 3)))
        self.same((15, 1), course(16, (0,) + identity(15)))
        self.same((1, 15), course(16, identity(16)[1:] + (1,)))
        self.same((2, 3), course(5, (1, 2, 0, 0, 3)))
        self.same((1, 2), course(4, (1, 0, 0, 1)))
        # A way of three ahead of a round of two, beside a round of three.
        self.same((3, 6), course(8, (1, 0, 0, 2, 3, 6, 7, 5)))
        longest = from_rounds(16, [(0, 1, 2, 3), (4, 5, 6, 7, 8), (9, 10, 11, 12, 13, 14, 15)])
        self.same((0, 140), course(16, longest))
