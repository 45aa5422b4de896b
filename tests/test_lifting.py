"""8.1, 8.2 and 8.3: polynomials by a power of a prime."""

import copy
import itertools

from onceeach.errors import NoBound, NoNumber, NoPoly, NoPower
from onceeach.lifting import base_of, lifts, once_on, stuck_holds, why_stuck
from tests.common import (
    NO_BOUNDS, NO_WHOLE_NUMBERS, Refusals, all_polys, no_numbers, no_polys, some_polys, worths_due,
)

POWERS = (4, 8, 9, 16)
BASES = {4: 2, 8: 2, 9: 3, 16: 2}
NO_POWERS = (2, 3, 5, 6, 7, 10, 11, 12, 13, 14, 15)


def more_polys(power):
    """Polynomials by a power, many of them once, some long ones among them."""
    prime = BASES[power]
    found = some_polys(power)
    found += [(b, a) for a in range(1, power) for b in (0, 1, power - 1)]
    found += [(1, 1, prime), (0, power - 1, 0, prime), (prime, 1, prime, prime), (1, 1, 0, prime, 0, prime)]
    found += [(0, 1) + (0, prime) * many for many in (1, 2, 3, 30)]
    found += [(0,) * many + (1,) for many in (1, 2, 3, 4, 6, 60)]
    found += [(0, 1) + (0, 0) * 10 + (0, prime), (0, 1) + (1, 1) * 40, (5 % power, 3) + (2, 2) * 50]
    return list(dict.fromkeys(found))


def slope_due(poly, x):
    return sum(k * number * x ** (k - 1) for k, number in enumerate(poly) if k > 0)


def holds_due(power, poly, thing):
    """Whether a paper of one of the two kinds, with whole numbers, holds."""
    prime = BASES[power]
    if not all(0 <= number < prime for number in thing[1:]):
        return False
    if thing[0] == "slope":
        return slope_due(poly, thing[1]) % prime == 0
    function = worths_due(power, poly)
    return thing[1] < thing[2] and (function[thing[1]] - function[thing[2]]) % prime == 0


def papers(power):
    """Papers of both kinds with numbers of the prime and such as lie beyond, up to the power's own."""
    found = [("clash", a, b) for a, b in itertools.product(range(-2, power + 1), repeat=2)]
    return found + [("slope", x) for x in range(-3, power + 2)]


class TestBaseOf(Refusals):

    def test_arguments(self):
        self.takes(base_of, "power")
        self.same((2, 2), base_of(power=4))

    def test_each_power(self):
        self.same([(2, 2), (2, 3), (3, 2), (2, 4)], [base_of(power) for power in POWERS])

    def test_refused(self):
        for wrong in NO_BOUNDS:
            self.refused(NoBound, base_of, wrong)
        for wrong in NO_POWERS:
            self.refused(NoPower, base_of, wrong)


class TestOnceOn(Refusals):

    def test_arguments(self):
        self.takes(once_on, "power", "poly")
        self.same(True, once_on(poly=(0, 1), power=4))

    def look_at(self, power, poly):
        due = len(set(worths_due(power, poly))) == power
        self.same(due, once_on(power, poly))
        return due

    def test_each_power(self):
        for power in POWERS:
            looks = [self.look_at(power, poly) for poly in more_polys(power)]
            self.assertIn(True, looks)
            self.assertIn(False, looks)

    def test_all_of_few_numbers(self):
        for power, most in ((4, 5), (8, 4), (9, 3), (16, 3)):
            for poly in all_polys(power, most):
                self.look_at(power, poly)

    def test_of_one_number_or_none(self):
        for power in POWERS:
            for poly in all_polys(power, 1):
                self.same(False, once_on(power, poly))

    def test_known(self):
        self.same(True, once_on(16, (1, 1, 2)))
        # Once by the prime, but with the slope 0 there.
        self.same(False, once_on(4, (0, 0, 1)))
        self.same(False, once_on(9, (0, 0, 0, 1)))
        # The slope is nowhere 0, but by the prime it is not once.
        self.same(False, once_on(4, (0, 1, 1)))
        # The last number is a multiple of the prime.
        self.same(True, once_on(9, (0, 1, 0, 3)))
        self.same(True, once_on(9, (0, 2, 3)))


class TestStuckHolds(Refusals):

    def test_arguments(self):
        self.takes(stuck_holds, "power", "poly", "thing")
        self.takes(why_stuck, "power", "poly")
        self.same(True, stuck_holds(thing=("slope", 0), poly=(0, 0, 1), power=4))
        self.same(None, why_stuck(poly=(0, 1), power=4))

    def test_each_power(self):
        for power in POWERS:
            for poly in more_polys(power):
                for thing in papers(power):
                    self.same(holds_due(power, poly, thing), stuck_holds(power, poly, thing))

    def test_a_paper_just_where_not_once(self):
        for power, most in ((4, 4), (8, 3), (9, 3)):
            for poly in all_polys(power, most):
                found = any(stuck_holds(power, poly, thing) for thing in papers(power))
                self.same(len(set(worths_due(power, poly))) < power, found)

    def test_what_a_slope_shows(self):
        for power in POWERS:
            for poly in more_polys(power):
                function = worths_due(power, poly)
                for x in range(BASES[power]):
                    if stuck_holds(power, poly, ("slope", x)):
                        self.same(function[x], function[x + power // BASES[power]])

    def test_known(self):
        self.same(True, stuck_holds(9, (), ("clash", 0, 2)))
        self.same(True, stuck_holds(9, (), ("slope", 2)))
        # The worths by 9 are 0, 1 and 4: those at 1 and 2 differ by 3.
        self.same(True, stuck_holds(9, (0, 0, 1), ("clash", 1, 2)))
        self.same(False, stuck_holds(9, (0, 0, 1), ("clash", 0, 1)))
        self.same(True, stuck_holds(9, (0, 0, 1), ("slope", 0)))
        self.same(False, stuck_holds(9, (0, 0, 1), ("slope", 1)))

    def test_not_less_or_just_beyond(self):
        for power in POWERS:
            prime = BASES[power]
            wrong = [("clash", 0, 0), ("clash", 1, 0), ("clash", 1, 1), ("clash", prime - 1, prime), ("clash", -1, 0)]
            wrong += [("clash", 0, prime), ("clash", 0, power), ("clash", -1, 1), ("slope", prime), ("slope", -1)]
            wrong += [("slope", power), ("slope", -prime), ("clash", 0, power // prime), ("slope", power // prime + 2)]
            for thing in wrong:
                self.same(False, stuck_holds(power, (), thing))

    def test_truths_are_no_numbers(self):
        for power in POWERS:
            self.same(True, stuck_holds(power, (), ("clash", 0, 1)))
            for thing in [("clash", False, 1), ("clash", 0, True), ("clash", False, True), ("slope", False)]:
                self.same(False, stuck_holds(power, (), thing))
            self.same(False, stuck_holds(power, (), ("slope", True)))

    def test_whatever_is_handed_in(self):
        things = [None, True, False, 0, 1, -1, 10 ** 30, "", "clash", "slope", "clash 0 1", "slope 0", [], (), {}]
        things += [["clash", 0, 1], ["slope", 0], {"slope": 0}, {"clash": (0, 1)}, (["clash", 0, 1],), [("slope", 0)]]
        things += [("clash",), ("clash", 0), ("clash", 0, 1, 1), ("clash", (0, 1)), (("clash", 0, 1),), (0, 1, "clash")]
        things += [("slope",), ("slope", 0, 0), ("slope", 0, 1), ("slope", (0,)), (0, "slope"), ("Slope", 0), ("slope ", 0)]
        things += [("step", 0), ("sum", 1), ("missed", 1), ("noughts", 0), ("clashes", 0, 1), ("Clash", 0, 1), (None, 0)]
        things += [(True, 0), (0, 0), (0, 0, 1), ([], 0), ({}, 0, 1), (["slope"], 0), (("clash",), 0, 1), ("", 0)]
        for other in (None, "", "0", "1", [], [0], (), (1,), {}, {0: 1}, 10 ** 30, -(10 ** 30)):
            things += [("clash", other, 1), ("clash", 0, other), ("slope", other)]
        for power in POWERS:
            for thing in things:
                kept = copy.deepcopy(thing)
                self.same(False, stuck_holds(power, (), thing))
                self.same(kept, thing)


class TestWhyStuck(Refusals):

    def look_at(self, power, poly):
        told = why_stuck(power, poly)
        self.same(len(set(worths_due(power, poly))) == power, told is None)
        if told is not None:
            self.same(True, holds_due(power, poly, told))
            self.same(True, stuck_holds(power, poly, told))

    def test_each_power(self):
        for power in POWERS:
            for poly in more_polys(power):
                self.look_at(power, poly)

    def test_all_of_few_numbers(self):
        for power, most in ((4, 4), (8, 3), (9, 3), (16, 2)):
            for poly in all_polys(power, most):
                self.look_at(power, poly)

    def test_both_kinds(self):
        # By 4, x + x x is stuck by a clash alone, x x by slopes alone.
        self.same(("clash", 0, 1), why_stuck(4, (0, 1, 1)))
        self.assertIn(why_stuck(4, (0, 0, 1)), [("slope", 0), ("slope", 1)])


class TestLifts(Refusals):

    def test_arguments(self):
        self.takes(lifts, "power", "poly", "c", "x")
        self.same((1, 3), lifts(x=1, c=1, poly=(0, 0, 1), power=4))

    def test_each_rest_and_worth(self):
        empty = 0
        for power in POWERS:
            below = power // BASES[power]
            for poly in more_polys(power)[::3]:
                function = worths_due(power, poly)
                for c in range(power):
                    for x in range(below):
                        due = tuple(y for y in range(power) if y % below == x and function[y] == c)
                        empty += due == ()
                        self.same(due, lifts(power, poly, c, x))
        self.assertGreater(empty, 0)

    def test_known(self):
        self.same((0, 2), lifts(4, (), 0, 0))
        self.same((), lifts(4, (), 1, 0))
        self.same((0, 3, 6), lifts(9, (0, 0, 1), 0, 0))
        self.same((4,), lifts(9, (0, 0, 1), 7, 1))
        # By 16 the rests go up to 7, though the prime is 2.
        self.same((7, 15), lifts(16, (0, 0, 1), 1, 7))
        self.same((3, 7), lifts(8, (0, 0, 1), 1, 3))
        self.same((5,), lifts(16, (0, 1), 5, 5))
        self.same((), lifts(16, (0, 1), 5, 4))

    def test_just_beyond(self):
        for power in POWERS:
            below = power // BASES[power]
            for wrong in no_numbers(power):
                self.refused(NoNumber, lifts, power, (0, 1), wrong, 0)
                # c stands ahead of x, and both are refused alike.
                self.refused(NoNumber, lifts, power, (0, 1), wrong, below)
            for wrong in [-1, below, below + 1, power - 1, power, -below, 10 ** 30] + NO_WHOLE_NUMBERS:
                self.refused(NoNumber, lifts, power, (0, 1), 0, wrong)
            self.same((power - 1,), lifts(power, (0, 1), power - 1, below - 1))


class TestRefusedOfAll(Refusals):

    CALLS = ((once_on, ()), (stuck_holds, (("slope", 0),)), (why_stuck, ()), (lifts, (0, 0)), (lifts, (-1, None)))

    def test_no_bound_first(self):
        for call, behind in self.CALLS:
            for wrong in NO_BOUNDS:
                self.refused(NoBound, call, wrong, (0, 1), *behind)
                self.refused(NoBound, call, wrong, None, *behind)

    def test_no_power_ahead_of_no_poly(self):
        for call, behind in self.CALLS:
            for wrong in NO_POWERS:
                self.refused(NoPower, call, wrong, (0, 1), *behind)
                self.refused(NoPower, call, wrong, None, *behind)
                self.refused(NoPower, call, wrong, (0, 0), *behind)

    def test_no_poly(self):
        for call, behind in self.CALLS:
            for power in POWERS:
                for wrong in no_polys(power):
                    self.refused(NoPoly, call, power, wrong, *behind)

    def test_what_is_refused_stays(self):
        for call, behind in self.CALLS:
            thing = [0, 1, [2]]
            self.refused(NoPoly, call, 9, thing, *behind)
            self.same([0, 1, [2]], thing)

    def test_same_answer_again(self):
        asked = [(call, poly, behind) for call, behind in self.CALLS[:4] for poly in more_polys(9)[::2]]
        first = [call(9, poly, *behind) for call, poly, behind in asked]
        self.same(first[::-1], [call(9, poly, *behind) for call, poly, behind in asked[::-1]])
