"""What several test files share."""

import inspect
import itertools
import unittest

BOUNDS = list(range(2, 17))
PRIMES = [2, 3, 5, 7, 11, 13]
NO_PRIMES = [4, 6, 8, 9, 10, 12, 14, 15, 16]
MOST_TIMES = 10 ** 30
NO_WHOLE_NUMBERS = [None, True, False, "", "1", "none", [], [1], (), (1,), {}, {1: 1}]
NO_BOUNDS = [-16, -2, -1, 0, 1, 17, 18, 10 ** 30, [2], (2,), {2: 2}, "2"] + NO_WHOLE_NUMBERS
NO_TIMES = [-1, -(10 ** 30), 10 ** 30 + 1] + NO_WHOLE_NUMBERS


def no_numbers(bound):
    """Things that are no numbers of the bound, those just beyond it first."""
    return [-1, bound, bound + 1, -bound, 10 ** 30] + NO_WHOLE_NUMBERS


def identity(bound):
    return tuple(range(bound))


def with_at(row, at, number):
    """The tuple with another number at one place."""
    return row[:at] + (number,) + row[at + 1:]


def all_functions(bound):
    return list(itertools.product(range(bound), repeat=bound))


def all_polys(bound, most):
    """All polynomials by a bound of at most so many numbers."""
    return [poly for many in range(most + 1) for poly in itertools.product(range(bound), repeat=many)
            if not poly or poly[-1] != 0]


def worths_due(bound, poly):
    return tuple(sum(number * x ** k for k, number in enumerate(poly)) % bound for x in range(bound))


def some_functions(bound):
    """Functions of many kinds by a bound, some once, some not, some told, some not."""
    found = [identity(bound), identity(bound)[::-1], (0,) * bound, (bound - 1,) * bound]
    found += [identity(bound)[1:] + (0,), (1,) + (0,) * (bound - 1), (0,) * (bound - 1) + (1,)]
    for a in range(1, 8):
        found.append(tuple((a * x * x + 3 * x + a) % bound for x in range(bound)))
        found.append(tuple((a * x * x * x + x * x // 2) % bound for x in range(bound)))
        found.append(tuple((a * x // 3 + x // 2) % bound for x in range(bound)))
        found.append(tuple((x * 7 ** a // 5) % bound for x in range(bound)))
    return found


def no_functions(bound):
    """Things that are no functions by a bound."""
    one = identity(bound)
    found = [list(one), one[:-1], one + (0,), (), [], None, True, False, 0, bound, "", "0 1", {}, {0: 0, 1: 1}, (one,)]
    for at in (0, bound // 2, bound - 1):
        for wrong in no_numbers(bound):
            found.append(with_at(one, at, wrong))
    return found


def some_polys(bound):
    """Polynomials of many kinds by a bound, with last numbers that have a back and such as have none."""
    found = [(), (1,), (bound - 1,), (0, 1), (bound - 1, 1), (0,) * 9 + (1,), (1,) * 20]
    for last in range(1, bound):
        found += [(last,), (0, last), (last, 0, 1, last), tuple((last * k + 1) % bound for k in range(5)) + (last,)]
    return list(dict.fromkeys(found))


def no_polys(bound):
    """Things that are no polynomials by a bound."""
    found = [[], [1], [0, 1], (0,), (1, 0), (0, 0), (1,) * 16 + (0,), None, True, False, 0, 1, "", "1", "none", {}]
    found += [{0: 1}, ((),), ((1,),)]
    for wrong in no_numbers(bound):
        found += [(wrong,), (wrong, 1), (1, wrong), (1, wrong, 1)]
    return found


class Refusals(unittest.TestCase):
    """A test case that looks at refusals."""

    def refused(self, error, call, *args, **named):
        """Want just this class, none above it or below it, and tell the error."""
        try:
            told = call(*args, **named)
        except ValueError as why:
            self.assertIs(type(why), error, (call, args, named))
            return why
        self.fail(f"{call.__name__}{args}{named} told {told!r}, {error.__name__} was due")

    def same(self, due, told):
        """Want a value and its kind, also inside: True is not 1 here."""
        self.assertEqual(repr(due), repr(told))

    def takes(self, call, *names):
        """Want these arguments, by these names, in this order."""
        self.assertEqual(list(names), list(inspect.signature(call).parameters))
