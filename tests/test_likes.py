"""6.4: functions alike."""

import copy
import itertools
from math import gcd

from onceeach.errors import NoBound, NoFunction, TooGreat
from onceeach.likes import alike_holds, least_alike, why_alike
from tests.common import BOUNDS, NO_BOUNDS, Refusals, identity, no_functions, no_numbers, some_functions, with_at

SMALL = list(range(2, 9))
BOTH = (why_alike, least_alike)


def backed(bound):
    return [number for number in range(bound) if gcd(number, bound) == 1]


def made(bound, function, told):
    a, b, c, d = told
    return tuple((a * function[(b * x + c) % bound] + d) % bound for x in range(bound))


def all_alike(bound, function):
    """Each function alike to one, and the first tuple that shows it."""
    found = {}
    for told in itertools.product(backed(bound), backed(bound), range(bound), range(bound)):
        found.setdefault(made(bound, function, told), told)
    return found


class TestAlikeHolds(Refusals):

    def test_arguments(self):
        self.takes(alike_holds, "bound", "one", "other", "thing")
        self.takes(why_alike, "bound", "one", "other")
        self.takes(least_alike, "bound", "function")
        self.same(True, alike_holds(thing=(1, 1, 0, 1), other=(1, 1), one=(0, 0), bound=2))
        self.same((1, 1, 0, 1), why_alike(other=(1, 1), one=(0, 0), bound=2))
        self.same((0, 0), least_alike(function=(1, 1), bound=2))

    def test_each_tuple_by_few(self):
        for bound in (2, 3, 4):
            for one in some_functions(bound)[:9]:
                for other in some_functions(bound)[:9]:
                    for told in itertools.product(range(-1, bound + 1), repeat=4):
                        due = all(0 <= number < bound for number in told)
                        due = due and gcd(told[0], bound) == gcd(told[1], bound) == 1
                        due = due and made(bound, one, told) == other
                        self.same(due, alike_holds(bound, one, other, told))

    def test_each_bound(self):
        for bound in BOUNDS:
            for one in some_functions(bound)[::4]:
                for a, b in itertools.product(backed(bound)[-2:], backed(bound)[:2] + backed(bound)[-1:]):
                    for c, d in ((0, 0), (1, bound - 1), (bound - 1, 1)):
                        other = made(bound, one, (a, b, c, d))
                        self.same(True, alike_holds(bound, one, other, (a, b, c, d)))
                        off = with_at(other, bound - 1, (other[-1] + 1) % bound)
                        self.same(False, alike_holds(bound, one, off, (a, b, c, d)))

    def test_without_a_back(self):
        # The tuple makes the other function, but a or b has no back, so it shows nothing.
        for bound in BOUNDS:
            for wrong in [number for number in range(bound) if gcd(number, bound) != 1]:
                for told in [(wrong, 1, 0, 0), (1, wrong, 0, 0), (wrong, wrong, 1, 1)]:
                    for one in (identity(bound), (0,) * bound):
                        self.same(False, alike_holds(bound, one, made(bound, one, told), told))

    def test_numbers_just_beyond(self):
        for bound in BOUNDS:
            one = (0,) * bound
            right = (1, 1, 0, 0)
            self.same(True, alike_holds(bound, one, one, right))
            for at in range(4):
                for wrong in no_numbers(bound):
                    self.same(False, alike_holds(bound, one, one, with_at(right, at, wrong)))
                self.same(False, alike_holds(bound, one, one, with_at(right, at, right[at] + bound)))
                self.same(False, alike_holds(bound, one, one, with_at(right, at, right[at] - bound)))

    def test_truths_are_no_numbers(self):
        for told in [(True, 1, 0, 0), (1, True, 0, 0), (1, 1, False, 0), (1, 1, 0, False), (1, 1, True, 0)]:
            self.same(False, alike_holds(5, (2,) * 5, (2,) * 5, told))

    def test_whatever_is_handed_in(self):
        things = [None, True, False, 0, 1, -1, 10 ** 30, "", "1 1 0 0", "1100", [], (), {}, [1, 1, 0, 0], [[1, 1, 0, 0]]]
        things += [(1,), (1, 1), (1, 1, 0), (1, 1, 0, 0, 0), ((1, 1, 0, 0),), ((1, 1), (0, 0)), ("1", "1", "0", "0")]
        things += [(1, 1, 0, None), (1, 1, [0], 0), (1, (1,), 0, 0), ({}, 1, 0, 0), {1: 1, 0: 0}, {0: (1, 1, 0, 0)}]
        things += [("alike", 1, 1, 0, 0), (1, 1, 0, "0"), (1, 1, 0, 10 ** 30), (-(10 ** 30), 1, 0, 0), ((), (), (), ())]
        for bound in (2, 8, 16):
            for thing in things:
                kept = copy.deepcopy(thing)
                self.same(False, alike_holds(bound, (0,) * bound, (0,) * bound, thing))
                self.same(kept, thing)

    def test_first_and_second_are_not_changed_about(self):
        # 2 f(x + 4) + 1, f being x x by 5.
        self.same(True, alike_holds(5, (0, 1, 4, 4, 1), (3, 1, 3, 4, 4), (2, 1, 4, 1)))
        self.same(False, alike_holds(5, (3, 1, 3, 4, 4), (0, 1, 4, 4, 1), (2, 1, 4, 1)))

    def test_refused_from_the_left(self):
        for wrong in NO_BOUNDS:
            self.refused(NoBound, alike_holds, wrong, (0, 1), (0, 1), (1, 1, 0, 0))
            self.refused(NoBound, alike_holds, wrong, None, None, None)
        for bound in (2, 8, 9, 16):
            for wrong in no_functions(bound):
                self.refused(NoFunction, alike_holds, bound, wrong, identity(bound), (1, 1, 0, 0))
                self.refused(NoFunction, alike_holds, bound, identity(bound), wrong, (1, 1, 0, 0))
                self.refused(NoFunction, alike_holds, bound, identity(bound), wrong, None)


class TestWhyAlike(Refusals):

    def test_each_small_bound(self):
        for bound in SMALL:
            for one in some_functions(bound)[::3]:
                alike = all_alike(bound, one)
                others = some_functions(bound)[1::3] + sorted(alike)[::7]
                for other in others:
                    told = why_alike(bound, one, other)
                    self.same(alike.get(other), told)
                    if told is not None:
                        self.same(True, alike_holds(bound, one, other, told))

    def test_all_by_few(self):
        for bound in (2, 3):
            functions = list(itertools.product(range(bound), repeat=bound))
            for one in functions:
                alike = all_alike(bound, one)
                for other in functions:
                    self.same(alike.get(other), why_alike(bound, one, other))

    def test_known(self):
        self.same((1, 1, 0, 0), why_alike(8, identity(8), identity(8)))
        self.same((1, 1, 0, 0), why_alike(8, (5,) * 8, (5,) * 8))
        self.same((1, 1, 0, 2), why_alike(8, (5,) * 8, (7,) * 8))
        self.same(None, why_alike(8, identity(8), (0,) * 8))
        self.same(None, why_alike(8, (0,) * 8, identity(8)))
        # (2, 4, 1, 1) and (3, 2, 3, 1) show it too, but stand behind.
        self.same((2, 1, 4, 1), why_alike(5, (0, 1, 4, 4, 1), (3, 1, 3, 4, 4)))
        self.same(True, alike_holds(5, (0, 1, 4, 4, 1), (3, 1, 3, 4, 4), (2, 4, 1, 1)))
        self.same(True, alike_holds(5, (0, 1, 4, 4, 1), (3, 1, 3, 4, 4), (3, 2, 3, 1)))


class TestLeastAlike(Refusals):

    def test_each_small_bound(self):
        for bound in SMALL:
            for function in some_functions(bound):
                self.same(min(all_alike(bound, function)), least_alike(bound, function))

    def test_all_by_few(self):
        for bound in (2, 3, 4):
            for function in itertools.product(range(bound), repeat=bound):
                self.same(min(all_alike(bound, function)), least_alike(bound, function))

    def test_same_of_all_alike(self):
        for bound in SMALL:
            for function in some_functions(bound)[::5]:
                for other in sorted(all_alike(bound, function))[::17]:
                    self.same(least_alike(bound, function), least_alike(bound, other))

    def test_known(self):
        self.same((0,) * 8, least_alike(8, (7,) * 8))
        self.same((0, 1), least_alike(2, (1, 0)))
        self.same(identity(8), least_alike(8, identity(8)[::-1]))
        self.same((0, 0, 0, 0, 1), least_alike(5, (3, 3, 0, 3, 3)))


class TestRefusedOfBoth(Refusals):

    def ask(self, call, bound, function):
        return call(bound, function, function) if call == why_alike else call(bound, function)

    def refused_of(self, error, call, bound, function):
        if call == why_alike:
            return self.refused(error, call, bound, function, function)
        return self.refused(error, call, bound, function)

    def test_eight_is_taken(self):
        self.same((1, 1, 0, 0), why_alike(8, identity(8), identity(8)))
        self.same(identity(8), least_alike(8, identity(8)))

    def test_too_great(self):
        for bound in range(9, 17):
            for call in BOTH:
                why = self.refused_of(TooGreat, call, bound, identity(bound))
                self.same((bound, 8), (why.many, why.most))

    def test_too_great_ahead_of_no_function(self):
        # The bound stands further to the left than the functions.
        for bound in (9, 16):
            for call in BOTH:
                for wrong in no_functions(bound):
                    why = self.refused_of(TooGreat, call, bound, wrong)
                    self.same((bound, 8), (why.many, why.most))

    def test_no_bound_first(self):
        for wrong in NO_BOUNDS:
            for call in BOTH:
                self.refused_of(NoBound, call, wrong, (0, 1))
                self.refused_of(NoBound, call, wrong, None)

    def test_no_functions(self):
        for bound in (2, 5, 8):
            for wrong in no_functions(bound):
                self.refused(NoFunction, why_alike, bound, wrong, identity(bound))
                self.refused(NoFunction, why_alike, bound, identity(bound), wrong)
                self.refused(NoFunction, least_alike, bound, wrong)

    def test_what_is_refused_stays(self):
        thing = [0, 1, [2]]
        self.refused(NoFunction, why_alike, 3, thing, (0, 1, 2))
        self.refused(NoFunction, why_alike, 3, (0, 1, 2), thing)
        self.refused(NoFunction, least_alike, 3, thing)
        self.refused(NoFunction, alike_holds, 3, thing, thing, thing)
        self.same([0, 1, [2]], thing)

    def test_same_answer_again(self):
        asked = [(call, function) for call in BOTH for function in some_functions(6)]
        first = [self.ask(call, 6, function) for call, function in asked]
        self.same(first[::-1], [self.ask(call, 6, function) for call, function in asked[::-1]])
