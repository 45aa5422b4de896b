"""Powers of x and the polynomials of a chain, and which of them are once by a prime."""

from onceeach.checks import MOST_TIMES, check_between, check_bound, check_number, check_prime
from onceeach.numbers import greatest_in_both
from onceeach.polys import poly_of
from onceeach.sums import plus, times

MOST_LINKS = 40


def power_once(prime, k):
    """Tell whether x raised to k is once by a prime."""
    check_prime(prime)
    check_between(k, 1, MOST_TIMES)
    return greatest_in_both(k, prime - 1) == 1


def chain_poly(bound, k, a):
    """Tell the polynomial at place k of the chain of a."""
    check_bound(bound)
    check_between(k, 0, MOST_LINKS)
    check_number(bound, a)
    x = poly_of(bound, [0, 1])
    less_a = poly_of(bound, [-a])
    here = poly_of(bound, [2])
    after = x
    for place in range(k):
        here, after = after, plus(bound, times(bound, x, after), times(bound, less_a, here))
    return here


def chain_once(prime, k, a):
    """Tell whether the polynomial at place k of the chain of a is once by a prime."""
    check_prime(prime)
    check_between(k, 1, MOST_TIMES)
    check_number(prime, a)
    # The chain of 0 is that of the powers of x.
    if a == 0:
        return power_once(prime, k)
    return greatest_in_both(k, prime * prime - 1) == 1
