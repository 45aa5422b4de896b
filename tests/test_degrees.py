"""7.3 and 7.4: the polynomials of the functions that are once by a small prime, by degrees."""

import itertools

from onceeach.degrees import by_degree, first_of_degree
from onceeach.errors import NoBound, NoNumber, NoPrime, TooGreat
from onceeach.polys import is_poly
from tests.common import NO_BOUNDS, NO_PRIMES, NO_WHOLE_NUMBERS, Refusals, all_polys, worths_due

TAKEN = ((2, 1), (3, 1), (5, 1), (5, 2), (5, 3))


def once_due(prime):
    """Each polynomial of at most as many numbers as the prime says whose worths are once."""
    return [poly for poly in all_polys(prime, prime) if len(set(worths_due(prime, poly))) == prime]


class TestByDegree(Refusals):

    def test_arguments(self):
        self.takes(by_degree, "prime")
        self.same([0, 2], by_degree(prime=2))

    def test_against_all_functions(self):
        for prime in (2, 3, 5):
            polys = once_due(prime)
            # Each function that is once has one such polynomial.
            functions = {worths_due(prime, poly) for poly in polys}
            self.same(sorted(itertools.permutations(range(prime))), sorted(functions))
            self.same(len(functions), len(polys))
            due = [sum(len(poly) == d + 1 for poly in polys) for d in range(prime)]
            self.same(due, by_degree(prime))

    def test_known(self):
        self.same([0, 2], by_degree(2))
        self.same([0, 6, 0], by_degree(3))
        self.same([0, 20, 0, 100, 0], by_degree(5))

    def test_list_is_the_askers_own(self):
        for prime in (2, 3, 5):
            first = by_degree(prime)
            kept = list(first)
            first.append(7)
            first[0] = 9
            self.same(kept, by_degree(prime))
            self.assertIsNot(by_degree(prime), by_degree(prime))

    def test_refused(self):
        for wrong in NO_BOUNDS:
            self.refused(NoBound, by_degree, wrong)
        for bound in NO_PRIMES:
            self.refused(NoPrime, by_degree, bound)
        for prime in (7, 11, 13):
            why = self.refused(TooGreat, by_degree, prime)
            self.same((prime, 5), (why.many, why.most))


class TestFirstOfDegree(Refusals):

    def test_arguments(self):
        self.takes(first_of_degree, "prime", "d")
        self.same((0, 1), first_of_degree(d=1, prime=3))

    def test_against_the_polynomials(self):
        for prime, d in TAKEN:
            due = None
            for poly in itertools.product(range(prime), repeat=d + 1):
                if poly[-1] != 0 and len(set(worths_due(prime, poly))) == prime:
                    due = poly
                    break
            told = first_of_degree(prime, d)
            self.same(due, told)
            self.same(told is not None, is_poly(prime, told))

    def test_known(self):
        self.same([(0, 1), (0, 1), (0, 1), None, (0, 0, 0, 1)], [first_of_degree(prime, d) for prime, d in TAKEN])

    def test_none_just_where_by_degree_has_none(self):
        for prime, d in TAKEN:
            self.same(by_degree(prime)[d] == 0, first_of_degree(prime, d) is None)

    def test_just_beyond(self):
        for prime, most in ((2, 1), (3, 1), (5, 3)):
            for wrong in [0, -1, most + 1, most + 2, prime, 10 ** 30] + NO_WHOLE_NUMBERS:
                self.refused(NoNumber, first_of_degree, prime, wrong)
        for prime in (3, 5):
            self.refused(NoNumber, first_of_degree, prime, prime - 1)

    def test_refused_from_the_left(self):
        for d in (1, 0, None):
            for wrong in NO_BOUNDS:
                self.refused(NoBound, first_of_degree, wrong, d)
            for bound in NO_PRIMES:
                self.refused(NoPrime, first_of_degree, bound, d)
            for prime in (7, 11, 13):
                why = self.refused(TooGreat, first_of_degree, prime, d)
                self.same((prime, 5), (why.many, why.most))

    def test_what_is_refused_stays(self):
        thing = [1, [2]]
        self.refused(NoNumber, first_of_degree, 5, thing)
        self.refused(NoBound, by_degree, thing)
        self.same([1, [2]], thing)

    def test_same_answer_again(self):
        first = [first_of_degree(prime, d) for prime, d in TAKEN]
        self.same(first[::-1], [first_of_degree(prime, d) for prime, d in TAKEN[::-1]])
