"""5.3: polynomials turned back, and done many times."""

import itertools

from onceeach.backs import back_poly, done_poly
from onceeach.errors import Apart, NoBound, NoNumber, NoPoly
from onceeach.polys import is_poly, worths
from onceeach.steps import poly_by
from tests.common import (
    BOUNDS, MOST_TIMES, NO_BOUNDS, NO_TIMES, PRIMES, Refusals, identity, no_polys, some_polys, worths_due,
)


def done_due(bound, function, k):
    """The function done k times: one by one until it comes round, what is left over then counted."""
    done = [identity(bound)]
    while True:
        after = tuple(function[worth] for worth in done[-1])
        if after in done:
            ahead = done.index(after)
            break
        done.append(after)
    return done[k] if k < ahead else done[ahead + (k - ahead) % (len(done) - ahead)]


def more_polys(bound):
    """Polynomials by a bound, many of them with worths that are once."""
    found = some_polys(bound)
    found += [(b, a) for a in range(1, bound) for b in (0, 1, bound - 1)]
    found += [(1, 0, 0, 1), (0, 0, 0, 0, 0, 1), (0,) * 7 + (1,), (0,) * 11 + (1,)]
    for part in range(2, bound):
        if bound % part == 0:
            found += [(1, 1, part), (0, bound - 1, 0, part), (part, 1, part, part)]
    return found


class TestBackPoly(Refusals):

    def test_arguments(self):
        self.takes(back_poly, "bound", "poly")
        self.same((2, 1), back_poly(poly=(1, 1), bound=3))

    def look_at(self, bound, poly):
        function = worths_due(bound, poly)
        if len(set(function)) < bound:
            self.refused(Apart, back_poly, bound, poly)
            return False
        told = back_poly(bound, poly)
        back = tuple(function.index(x) for x in range(bound))
        self.same(True, is_poly(bound, told))
        self.same(back, worths(bound, told))
        self.same(poly_by(bound, back), told)
        return True

    def test_each_bound(self):
        for bound in BOUNDS:
            looks = [self.look_at(bound, poly) for poly in more_polys(bound)]
            self.assertIn(True, looks)
            self.assertIn(False, looks)

    def test_all_by_few(self):
        for bound, many in ((2, 5), (3, 4), (4, 4), (5, 4), (6, 4)):
            for poly in itertools.product(range(bound), repeat=many):
                if poly[-1] != 0:
                    self.look_at(bound, poly)

    def test_powers_of_primes(self):
        # Each polynomial that is once by 8 and by 9 is turned back by a polynomial too.
        for bound in (8, 9):
            found = [poly for poly in itertools.product(range(bound), repeat=3) if poly[-1] != 0]
            self.assertIn(True, [self.look_at(bound, poly) for poly in found])

    def test_known(self):
        self.same((0, 1), back_poly(16, (0, 1)))
        self.same((15, 1), back_poly(16, (1, 1)))
        self.same((0, 11), back_poly(16, (0, 3)))
        self.same((0, 0, 0, 1), back_poly(5, (0, 0, 0, 1)))
        # By 4, x and x + 2 x x + 2 x have the same worths: the polynomial told is that of poly_by.
        self.same((0, 1), back_poly(4, (0, 3, 2)))
        self.same((0, 1), back_poly(2, (0, 0, 0, 1)))

    def test_apart_where_not_once(self):
        for bound in BOUNDS:
            self.refused(Apart, back_poly, bound, ())
            self.refused(Apart, back_poly, bound, (1,))
        for prime in PRIMES[1:]:
            self.refused(Apart, back_poly, prime, (0, 0, 1))
        self.refused(Apart, back_poly, 4, (0, 2))
        self.refused(Apart, back_poly, 16, (0, 0, 0, 1))

    def test_refused_from_the_left(self):
        for wrong in NO_BOUNDS:
            self.refused(NoBound, back_poly, wrong, (0, 1))
            self.refused(NoBound, back_poly, wrong, None)
        for bound in (2, 6, 16):
            for wrong in no_polys(bound):
                self.refused(NoPoly, back_poly, bound, wrong)

    def test_what_is_refused_stays(self):
        thing = [0, 1, [2]]
        self.refused(NoPoly, back_poly, 5, thing)
        self.refused(NoPoly, done_poly, 5, thing, 2)
        self.same([0, 1, [2]], thing)

    def test_same_answer_again(self):
        polys = [(b, a) for a in (1, 3, 5, 7) for b in range(8)]
        first = [back_poly(8, poly) for poly in polys]
        self.same(first[::-1], [back_poly(8, poly) for poly in polys[::-1]])


class TestDonePoly(Refusals):

    def test_arguments(self):
        self.takes(done_poly, "bound", "poly", "k")
        self.same((2, 1), done_poly(k=2, poly=(1, 1), bound=3))

    def look_at(self, bound, poly, k):
        due = done_due(bound, worths_due(bound, poly), k)
        told = done_poly(bound, poly, k)
        self.same(True, is_poly(bound, told))
        self.same(due, worths(bound, told))
        self.same(poly_by(bound, due), told)

    def test_none_at_all(self):
        for bound in BOUNDS:
            for poly in more_polys(bound):
                self.same((0, 1), done_poly(bound, poly, 0))

    def test_few_times(self):
        for bound in BOUNDS:
            for poly in more_polys(bound)[::3]:
                for k in (1, 2, 3, 5, 8):
                    self.look_at(bound, poly, k)

    def test_great_times(self):
        for bound in BOUNDS:
            for poly in more_polys(bound)[::5]:
                for k in (999, 10 ** 15 + 1, MOST_TIMES - 1, MOST_TIMES):
                    self.look_at(bound, poly, k)

    def test_known(self):
        self.same((0, 1), done_poly(2, (1, 1), MOST_TIMES))
        self.same((1, 1), done_poly(2, (1, 1), MOST_TIMES - 1))
        self.same((MOST_TIMES % 13, 1), done_poly(13, (1, 1), MOST_TIMES))
        self.same((), done_poly(16, (0, 2), 4))
        self.same((0, 8), done_poly(16, (0, 2), 3))
        self.same((), done_poly(7, (), MOST_TIMES))
        self.same((3,), done_poly(7, (3,), MOST_TIMES))
        # The worths done once, not the polynomial itself: by 4, 2 x x has the worths of 2 x.
        self.same((0, 2), done_poly(4, (0, 0, 2), 1))

    def test_no_times(self):
        for poly in [(), (1, 1), (0, 0, 1)]:
            for wrong in NO_TIMES:
                self.refused(NoNumber, done_poly, 6, poly, wrong)

    def test_refused_from_the_left(self):
        for wrong in NO_BOUNDS:
            self.refused(NoBound, done_poly, wrong, (0, 1), 1)
            self.refused(NoBound, done_poly, wrong, None, None)
        for bound in (2, 6, 16):
            for wrong in no_polys(bound):
                self.refused(NoPoly, done_poly, bound, wrong, 1)
                self.refused(NoPoly, done_poly, bound, wrong, MOST_TIMES + 1)
                self.refused(NoPoly, done_poly, bound, wrong, None)

    def test_same_answer_again(self):
        asked = [(poly, k) for poly in [(1, 1), (0, 3, 2), (5, 0, 1)] for k in (0, 1, 7, MOST_TIMES)]
        first = [done_poly(6, poly, k) for poly, k in asked]
        self.same(first[::-1], [done_poly(6, poly, k) for poly, k in asked[::-1]])
