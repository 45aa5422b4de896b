"""How many functions are once, and the number of each among them."""

from onceeach.checks import PRIMES, check_between, check_bound, check_bound_to
from onceeach.functions import check_once
from onceeach.lifting import base_of
from onceeach.parts import parts_of
from onceeach.steps import product_to
from onceeach.untold import told_many

MOST_COUNTED = 9


def once_many(bound):
    """Tell how many functions by the bound are once."""
    check_bound(bound)
    return product_to(bound)


def once_told_many(bound):
    """Tell how many functions by the bound are once and told by polynomials."""
    check_bound_to(bound, MOST_COUNTED)
    many = 1
    # A told function has all its parts, these are told, and such of each part go together in any way.
    for part in parts_of(bound):
        many *= once_told_by_part(part)
    return many


def nth_once(bound, number):
    """Tell the function at a place among all that are once, as tuples rise."""
    check_bound(bound)
    check_between(number, 0, once_many(bound) - 1)
    free = list(range(bound))
    function = []
    left = number
    while len(free) > 0:
        # So many functions go on from each number that may stand at this place.
        many = product_to(len(free) - 1)
        function.append(free.pop(left // many))
        left = left % many
    return tuple(function)


def number_of(bound, function):
    """Tell the place of a function among all that are once, as tuples rise."""
    check_once(bound, function)
    number = 0
    for at, worth in enumerate(function):
        lesser = len([after for after in function[at + 1:] if after < worth])
        number = number * (bound - at) + lesser
    return number


def once_told_by_part(part):
    """Tell how many functions by a power of a prime are once and told by polynomials."""
    # By a prime each function is told.
    if part in PRIMES:
        return once_many(part)
    prime = base_of(part)[0]
    many = told_many(part)
    # At each number of the prime, all pairs of a worth and a slope by the prime are had equally often, whatever
    # those at the others are; the slope is not to be 0, and the worths are to be once.
    for number in range(prime):
        many = many // (prime * prime) * (prime - 1)
    return many * once_many(prime)
