"""The polynomials of the functions that are once by a small prime, by how many numbers they have."""

from onceeach.checks import check_between, check_bound_to, check_prime
from onceeach.counts import nth_once, once_many
from onceeach.steps import poly_by

MOST_PRIME = 5


def by_degree(prime):
    """Tell the list of how many functions that are once have a reduced polynomial of d + 1 numbers, for each d."""
    check_small_prime(prime)
    lengths = [len(poly) for poly in once_polys(prime)]
    return [lengths.count(d + 1) for d in range(prime)]


def first_of_degree(prime, d):
    """Tell the first polynomial of d + 1 numbers whose worths are once, None where there is none."""
    check_small_prime(prime)
    check_between(d, 1, max(1, prime - 2))
    return min([poly for poly in once_polys(prime) if len(poly) == d + 1], default=None)


def check_small_prime(prime):
    """Refuse what is no bound, then a bound that is no prime, then a prime that is too great."""
    check_prime(prime)
    check_bound_to(prime, MOST_PRIME)


def once_polys(prime):
    """Tell the list of the reduced polynomials of all functions that are once by a prime."""
    # What poly_by tells has at most as many numbers as the prime says, so by a prime it is reduced.
    return [poly_by(prime, nth_once(prime, number)) for number in range(once_many(prime))]
