"""The parts of a bound, the greatest powers of primes that go into it, and functions taken apart by them."""

from onceeach.checks import PRIMES, check_bound, check_each_function, check_function, check_list
from onceeach.errors import Apart, NoNumber


def parts_of(bound):
    """Tell the list of the greatest powers of primes that go into the bound, by their primes."""
    check_bound(bound)
    return [greatest_power(bound, prime) for prime in PRIMES if bound % prime == 0]


def part_of(bound, function, part):
    """Tell the function by a part of the bound to which the rests of the worths belong."""
    check_function(bound, function)
    if part not in parts_of(bound):
        raise NoNumber(f"one of the parts of {bound} is wanted here")
    rests = tuple(worth % part for worth in function)
    small = rests[:part]
    # Told over and over, the part's own function is that of all rests, or there is none.
    if rests != small * (bound // part):
        raise Apart(f"two numbers with one rest by {part} have worths with unlike ones")
    return small


def sewn(bound, things):
    """Tell the function by the bound whose parts are these functions, one by each part in their order."""
    parts = parts_of(bound)
    check_list(things, len(parts), len(parts))
    check_each_function(parts, things)
    return tuple(number_with(bound, parts, rests_at(parts, things, x)) for x in range(bound))


def greatest_power(bound, prime):
    """Tell the greatest power that goes into the bound of a prime that goes into it."""
    power = prime
    while bound % (power * prime) == 0:
        power *= prime
    return power


def rests_at(parts, functions, x):
    """Tell the worth at the rest of x of the function by each part."""
    return [function[x % part] for part, function in zip(parts, functions)]


def number_with(bound, parts, rests):
    """Tell the number of the bound that has these rests by its parts."""
    # No two numbers have all rests alike, so there is one for each row of rests.
    return [number for number in range(bound) if [number % part for part in parts] == rests][0]
