"""Functions by a prime known by the sums of their raised worths, and polynomials by a prime made short."""

from onceeach.checks import check_between, check_function, check_poly, check_prime
from onceeach.numbers import joined_often, raised
from onceeach.polys import poly_of
from onceeach.sums import number_at, times


def power_sums(prime, function):
    """Tell the rests of the sums of all worths, each raised to 1, to 2, and so on up to the prime less 1."""
    check_prime(prime)
    check_function(prime, function)
    return tuple(power_sum(prime, function, t) for t in range(1, prime))


def by_sums(prime, function):
    """Tell whether the sums are those of a function that is once: all 0 but the last, which is the prime less 1."""
    return power_sums(prime, function) == (0,) * (prime - 2) + (prime - 1,)


def reduced(prime, poly):
    """Tell the polynomial of at most as many numbers as the prime says that has the same worths."""
    check_prime(prime)
    check_poly(prime, poly)
    short = [0] * prime
    for k, number in enumerate(poly):
        short[short_place(prime, k)] += number
    return poly_of(prime, short)


def top_of(prime, poly, t):
    """Tell the number at the place prime less 1 of the reduced polynomial of this one raised to t."""
    check_prime(prime)
    check_poly(prime, poly)
    check_between(t, 1, prime - 1)
    # Reduced at each step, so that what is multiplied never grows.
    power = joined_often((1,), reduced(prime, poly), t, lambda one, other: reduced(prime, times(prime, one, other)))
    return number_at(power, prime - 1)


def power_sum(prime, function, t):
    """Tell the rest of the sum of all worths, each raised to t."""
    return sum(raised(prime, worth, t) for worth in function) % prime


def short_place(prime, k):
    """Tell the place below the prime at which x raised to it has the same worths as x raised to k."""
    # x raised to the prime has the worths of x itself; 1 has others than x raised to the prime less 1, at 0.
    return 0 if k == 0 else (k - 1) % (prime - 1) + 1
