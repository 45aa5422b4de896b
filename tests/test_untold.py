"""3.3: papers that no polynomial tells a function, and how many are told."""

import copy
import itertools
from math import comb, factorial, gcd

from onceeach.errors import NoBound, NoFunction
from onceeach.steps import is_told
from onceeach.untold import told_many, untold_holds, why_untold
from tests.common import BOUNDS, NO_BOUNDS, PRIMES, Refusals, identity, no_functions, some_functions

SPIKE = (1, 0, 0, 0, 0, 0)


def step_at(bound, function, k):
    return sum((-1) ** (k - j) * comb(k, j) * function[j] for j in range(k + 1)) % bound


def wrong_steps(bound, function):
    """The places where the step is no multiple of its part."""
    return [k for k in range(bound) if step_at(bound, function, k) % gcd(bound, factorial(k)) != 0]


class TestUntoldHolds(Refusals):

    def test_arguments(self):
        self.takes(untold_holds, "bound", "function", "thing")
        self.takes(why_untold, "bound", "function")
        self.takes(told_many, "bound")
        self.same(True, untold_holds(thing=("step", 2), function=SPIKE, bound=6))
        self.same(("step", 2), why_untold(function=SPIKE, bound=6))
        self.same(108, told_many(bound=6))

    def test_steps(self):
        for bound in BOUNDS:
            for function in some_functions(bound):
                due = wrong_steps(bound, function)
                for k in range(-2, bound + 3):
                    self.same(k in due, untold_holds(bound, function, ("step", k)))

    def test_rests(self):
        for bound in BOUNDS:
            for function in some_functions(bound)[::3]:
                for d, a, b in itertools.product(range(-2, bound + 2), range(-1, bound + 1), range(-1, bound + 1)):
                    due = d >= 2 and bound % d == 0 and 0 <= a < bound and 0 <= b < bound
                    due = due and (a - b) % d == 0 and (function[a] - function[b]) % d != 0
                    self.same(due, untold_holds(bound, function, ("rests", d, a, b)))

    def test_rests_known(self):
        self.same(True, untold_holds(6, SPIKE, ("rests", 2, 0, 4)))
        self.same(True, untold_holds(6, SPIKE, ("rests", 2, 4, 0)))
        self.same(True, untold_holds(6, SPIKE, ("rests", 3, 0, 3)))
        self.same(False, untold_holds(6, SPIKE, ("rests", 3, 0, 2)))
        self.same(False, untold_holds(6, SPIKE, ("rests", 2, 2, 4)))
        self.same(False, untold_holds(6, SPIKE, ("rests", 1, 0, 1)))
        self.same(False, untold_holds(6, SPIKE, ("rests", 4, 0, 4)))
        self.same(False, untold_holds(6, SPIKE, ("rests", 6, 0, 0)))
        self.same(False, untold_holds(6, SPIKE, ("rests", -2, 0, 4)))
        self.same(False, untold_holds(6, SPIKE, ("rests", 0, 0, 4)))

    def test_no_paper_where_told(self):
        for bound in (2, 3, 4):
            for function in itertools.product(range(bound), repeat=bound):
                things = [("step", k) for k in range(bound)]
                things += [("rests", *told) for told in itertools.product(range(bound + 1), repeat=3)]
                if is_told(bound, function):
                    self.assertFalse(any(untold_holds(bound, function, thing) for thing in things))
                else:
                    self.assertTrue(any(untold_holds(bound, function, thing) for thing in things))

    def test_whatever_is_handed_in(self):
        truths = (True, True, True, True, False, True)
        things = [None, True, False, 0, 2, -1, 10 ** 30, "", "step", "step 2", "rests", [], (), {}, [()], ((),)]
        things += [["step", 2], ["rests", 2, 0, 4], {"step": 2}, ("step",), ("step", 2, 0), (2, "step"), ("steps", 2)]
        things += [("Step", 2), ("step ", 2), ("step", (2,)), ("step", [2]), ("step", "2"), ("step", None)]
        things += [("step", True), ("step", False), ("step", 10 ** 30), ("step", -4), ("step", 6), (("step", 2),)]
        things += [("step", {}), (["step"], 2), ({}, 2), (None, 2), (True, 2), (0, 2), ("rests", 2), ("rests",)]
        things += [("rests", 2, 0), ("rests", 2, 0, 4, 4), ("rests", 2, 0, True), ("rests", 2, False, 4)]
        things += [("rests", True, 0, 4), ("rests", "2", 0, 4), ("rests", 2, "0", 4), ("rests", 2, 0, None)]
        things += [("rests", [2], 0, 4), ("rests", 2, (0,), 4), ("rests", 2, 0, {}), ("rests", None, 0, 4)]
        things += [("rests", 2, 0, 10 ** 30), ("rests", 10 ** 30, 0, 4), ("rests", 2, 0, -2), ("step", 2, 0, 4)]
        things += [("rests", 2, 6, 0), ("rests", 2, 0, 6), ("rests", (2, 0, 4)), ("step", truths)]
        for thing in things:
            kept = copy.deepcopy(thing)
            self.same(False, untold_holds(6, SPIKE, thing))
            self.same(kept, thing)

    def test_truths_are_no_places(self):
        # Here 1 and 3 have worths that differ, so only the truth in the paper is wrong.
        self.same(True, untold_holds(4, (0, 0, 0, 1), ("rests", 2, 1, 3)))
        self.same(False, untold_holds(4, (0, 0, 0, 1), ("rests", 2, True, 3)))

    def test_refused_from_the_left(self):
        for wrong in NO_BOUNDS:
            self.refused(NoBound, untold_holds, wrong, (0, 1), ("step", 0))
            self.refused(NoBound, untold_holds, wrong, None, None)
            self.refused(NoBound, why_untold, wrong, (0, 1))
            self.refused(NoBound, why_untold, wrong, None)
            self.refused(NoBound, told_many, wrong)
        for bound in (2, 4, 16):
            for wrong in no_functions(bound):
                self.refused(NoFunction, untold_holds, bound, wrong, ("step", 0))
                self.refused(NoFunction, untold_holds, bound, wrong, None)
                self.refused(NoFunction, why_untold, bound, wrong)


class TestWhyUntold(Refusals):

    def test_least_place(self):
        for bound in BOUNDS:
            for function in some_functions(bound):
                due = wrong_steps(bound, function)
                self.same(("step", due[0]) if due else None, why_untold(bound, function))
                self.same(not due, is_told(bound, function))

    def test_all_by_four(self):
        for function in itertools.product(range(4), repeat=4):
            told = why_untold(4, function)
            self.same(told is None, is_told(4, function))
            if told is not None:
                self.same(True, untold_holds(4, function, told))

    def test_known(self):
        self.same(None, why_untold(6, identity(6)))
        self.same(("step", 2), why_untold(6, SPIKE))
        self.same(("step", 3), why_untold(4, (0, 0, 0, 1)))
        self.same(("step", 15), why_untold(16, (0,) * 15 + (1,)))
        for prime in PRIMES:
            self.same(None, why_untold(prime, (1,) + (0,) * (prime - 1)))


class TestToldMany(Refusals):

    def test_counted(self):
        for bound, many in ((2, 2), (3, 3), (4, 4), (6, 3), (8, 4), (10, 5), (12, 4)):
            found = set()
            lows = [range(bound // gcd(bound, factorial(k))) for k in range(many)]
            for numbers in itertools.product(*lows):
                worths = [sum(n * x ** k for k, n in enumerate(numbers)) % bound for x in range(bound)]
                found.add(tuple(worths))
            self.same(len(found), told_many(bound))

    def test_all_gone_through(self):
        for bound in (2, 3, 4, 5, 6):
            functions = itertools.product(range(bound), repeat=bound)
            self.same(sum(is_told(bound, function) for function in functions), told_many(bound))

    def test_each_bound(self):
        due = [4, 27, 64, 3125, 108, 823543, 1024, 19683, 12500, 11 ** 11, 1728, 13 ** 13, 3294172, 84375, 65536]
        self.same(due, [told_many(bound) for bound in BOUNDS])
        for prime in PRIMES:
            self.same(prime ** prime, told_many(prime))
