"""4.3: papers that a function is not once."""

import copy
import itertools

from onceeach.clashes import clash_holds, why_clash
from onceeach.errors import NoBound, NoFunction, NoPrime
from tests.common import NO_BOUNDS, NO_PRIMES, PRIMES, Refusals, identity, no_functions, some_functions

# Its worths are 0 three times, 1 and 3: it has papers of all four kinds.
MIXED = (0, 1, 0, 3, 0)


def sum_at(prime, function, t):
    return sum(worth ** t for worth in function) % prime


def holds_due(prime, function, thing):
    """Whether a paper of whole numbers holds, word by word as the document tells it."""
    if thing[0] == "clash":
        a, b = thing[1:]
        return 0 <= a < b < prime and function[a] == function[b]
    number = thing[1]
    if thing[0] == "missed":
        return 0 <= number < prime and number not in function
    if thing[0] == "sum":
        return 1 <= number <= prime - 2 and sum_at(prime, function, number) != 0
    return number == list(function).count(0) and number != 1


def papers(prime):
    """Papers of each kind with numbers of the prime and such as lie just beyond."""
    found = [("clash", a, b) for a, b in itertools.product(range(-2, prime + 2), repeat=2)]
    for kind in ("missed", "sum", "noughts"):
        found += [(kind, number) for number in range(-3, prime + 4)]
    return found


class TestClashHolds(Refusals):

    def test_arguments(self):
        self.takes(clash_holds, "prime", "function", "thing")
        self.takes(why_clash, "prime", "function")
        self.same(True, clash_holds(thing=("clash", 0, 1), function=(1, 1), prime=2))
        self.same(("noughts", 0), why_clash(function=(1, 1), prime=2))

    def test_each_prime(self):
        for prime in PRIMES:
            for function in some_functions(prime):
                for thing in papers(prime):
                    self.same(holds_due(prime, function, thing), clash_holds(prime, function, thing))

    def test_all_by_few(self):
        for prime in (2, 3):
            for function in itertools.product(range(prime), repeat=prime):
                for thing in papers(prime):
                    self.same(holds_due(prime, function, thing), clash_holds(prime, function, thing))

    def test_no_paper_where_once(self):
        for prime in (2, 3, 5):
            for function in itertools.product(range(prime), repeat=prime):
                found = any(clash_holds(prime, function, thing) for thing in papers(prime))
                self.same(len(set(function)) < prime, found)

    def test_known(self):
        for thing in [("clash", 0, 2), ("clash", 0, 4), ("clash", 2, 4), ("missed", 2), ("missed", 4), ("sum", 1)]:
            self.same(True, clash_holds(5, MIXED, thing))
        self.same(True, clash_holds(5, MIXED, ("sum", 3)))
        self.same(True, clash_holds(5, MIXED, ("noughts", 3)))
        # 1 + 9 has the rest 0, so this sum shows nothing.
        self.same(False, clash_holds(5, MIXED, ("sum", 2)))

    def test_wrong_ones(self):
        wrong = [("clash", 2, 0), ("clash", 0, 0), ("clash", 4, 4), ("clash", 0, 1), ("clash", 0, 5), ("clash", -1, 4)]
        wrong += [("clash", -5, 2), ("clash", 0, -1), ("missed", 0), ("missed", 3), ("missed", 5), ("missed", -1)]
        wrong += [("sum", 0), ("sum", 4), ("sum", 5), ("sum", -1), ("noughts", 0), ("noughts", 1), ("noughts", 2)]
        wrong += [("noughts", 4), ("noughts", -2), ("noughts", 8)]
        for thing in wrong:
            self.same(False, clash_holds(5, MIXED, thing))

    def test_last_sum_is_no_paper(self):
        # The sum at the prime less 2 is not 0 here, but t ends ahead of it.
        for prime in PRIMES:
            function = (1,) + (0,) * (prime - 1)
            self.assertNotEqual(0, sum_at(prime, function, prime - 1))
            self.same(False, clash_holds(prime, function, ("sum", prime - 1)))
            self.same(prime > 2, clash_holds(prime, function, ("sum", prime - 2)))
            self.same(False, clash_holds(prime, function, ("sum", 0)))

    def test_by_two_no_sum_holds(self):
        for function in itertools.product(range(2), repeat=2):
            for t in range(-2, 4):
                self.same(False, clash_holds(2, function, ("sum", t)))

    def test_one_nought_is_no_paper(self):
        self.same(False, clash_holds(5, (0, 1, 1, 1, 1), ("noughts", 1)))
        self.same(False, clash_holds(5, identity(5), ("noughts", 1)))

    def test_truths_are_no_numbers(self):
        self.same(True, clash_holds(3, (1, 1, 1), ("clash", 0, 1)))
        self.same(False, clash_holds(3, (1, 1, 1), ("clash", False, 1)))
        self.same(False, clash_holds(3, (1, 1, 1), ("clash", 0, True)))
        self.same(True, clash_holds(3, (1, 1, 1), ("missed", 0)))
        self.same(False, clash_holds(3, (1, 1, 1), ("missed", False)))
        self.same(True, clash_holds(3, (0, 2, 2), ("missed", 1)))
        self.same(False, clash_holds(3, (0, 2, 2), ("missed", True)))
        self.same(True, clash_holds(3, (0, 2, 2), ("sum", 1)))
        self.same(False, clash_holds(3, (0, 2, 2), ("sum", True)))
        self.same(True, clash_holds(3, (1, 1, 1), ("noughts", 0)))
        self.same(False, clash_holds(3, (1, 1, 1), ("noughts", False)))
        self.same(False, clash_holds(3, (0, 2, 2), ("noughts", True)))

    def test_whatever_is_handed_in(self):
        things = [None, True, False, 0, 3, -1, 10 ** 30, "", "clash", "clash 0 2", "noughts", [], (), {}, [()], ((),)]
        things += [["clash", 0, 2], ["missed", 2], ["sum", 1], ["noughts", 3], {"sum": 1}, {"noughts": 3}]
        things += [("clash",), ("clash", 0), ("clash", 0, 2, 4), ("clash", (0, 2)), (("clash", 0, 2),), (0, 2, "clash")]
        things += [("missed",), ("missed", 2, 4), ("missed", 2, 2), ("missed", (2,)), (2, "missed"), (2,), (0, 2)]
        things += [("sum",), ("sum", 1, 1), ("sum", (1,)), ("sums", 1), ("Sum", 1), ("sum ", 1), ("noughts", 3, 3)]
        things += [("noughts",), ("noughts", (3,)), ("nought", 3), (None, 2), (True, 1), (0, 1), ([], 1), ({}, 1)]
        things += [(["sum"], 1), (("sum",), 1), ("", 1), ("step", 1), ("clash", 1), ("missed", 0, 2), ("sum", 0, 2)]
        for other in (None, "", "1", "2", [], [1], (), (2,), {}, {1: 1}, 10 ** 30, -(10 ** 30)):
            things += [("clash", other, 2), ("clash", 0, other), ("missed", other), ("sum", other), ("noughts", other)]
        for thing in things:
            kept = copy.deepcopy(thing)
            self.same(False, clash_holds(5, MIXED, thing))
            self.same(kept, thing)

    def test_refused_from_the_left(self):
        for wrong in NO_BOUNDS:
            self.refused(NoBound, clash_holds, wrong, (0, 1), ("sum", 1))
            self.refused(NoBound, clash_holds, wrong, None, None)
            self.refused(NoBound, why_clash, wrong, (0, 1))
            self.refused(NoBound, why_clash, wrong, None)
        for bound in NO_PRIMES:
            self.refused(NoPrime, clash_holds, bound, identity(bound), ("clash", 0, 1))
            self.refused(NoPrime, clash_holds, bound, None, None)
            self.refused(NoPrime, why_clash, bound, identity(bound))
            self.refused(NoPrime, why_clash, bound, (0,) * bound)
            self.refused(NoPrime, why_clash, bound, None)
        for prime in (2, 5, 13):
            for wrong in no_functions(prime):
                self.refused(NoFunction, clash_holds, prime, wrong, ("clash", 0, 1))
                self.refused(NoFunction, clash_holds, prime, wrong, None)
                self.refused(NoFunction, why_clash, prime, wrong)


class TestWhyClash(Refusals):

    def look_at(self, prime, function):
        told = why_clash(prime, function)
        sums = [t for t in range(1, prime - 1) if sum_at(prime, function, t) != 0]
        if len(set(function)) == prime:
            self.same(None, told)
        elif sums:
            self.same(("sum", sums[0]), told)
        else:
            self.same(("noughts", list(function).count(0)), told)
        if told is not None:
            self.same(True, clash_holds(prime, function, told))

    def test_each_prime(self):
        for prime in PRIMES:
            for function in some_functions(prime):
                self.look_at(prime, function)
            for worth in range(prime):
                self.look_at(prime, (worth,) * prime)

    def test_all_by_few(self):
        for prime in (2, 3, 5):
            for function in itertools.product(range(prime), repeat=prime):
                self.look_at(prime, function)

    def test_by_two(self):
        self.same(("noughts", 2), why_clash(2, (0, 0)))
        self.same(None, why_clash(2, (0, 1)))
        self.same(None, why_clash(2, (1, 0)))
        self.same(("noughts", 0), why_clash(2, (1, 1)))

    def test_known(self):
        self.same(("sum", 1), why_clash(5, MIXED))
        self.same(("sum", 2), why_clash(5, (0, 1, 1, 4, 4)))
        self.same(("sum", 3), why_clash(7, (0, 0, 0, 0, 1, 2, 4)))
        self.same(("noughts", 13), why_clash(13, (0,) * 13))
        self.same(("noughts", 0), why_clash(13, (12,) * 13))
        for prime in PRIMES:
            self.same(None, why_clash(prime, identity(prime)))
            self.same(None, why_clash(prime, identity(prime)[::-1]))

    def test_what_is_refused_stays(self):
        thing = [1, 0, [2]]
        self.refused(NoFunction, why_clash, 3, thing)
        self.refused(NoFunction, clash_holds, 3, thing, ["sum", 1])
        self.same([1, 0, [2]], thing)

    def test_same_answer_again(self):
        functions = some_functions(11)
        first = [why_clash(11, function) for function in functions]
        self.same(first[::-1], [why_clash(11, function) for function in functions[::-1]])
