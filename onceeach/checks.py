"""What the other modules share: looking at what is handed in, and refusing it."""

from onceeach.errors import NoBound, NoFunction, NoList, NoNumber, NoPoly, NoPrime, TooGreat

LEAST_BOUND = 2
GREATEST_BOUND = 16
PRIMES = (2, 3, 5, 7, 11, 13)
MOST_TIMES = 10 ** 30


def is_whole(thing):
    """Tell whether a thing is a whole number."""
    # Truths are ints to Python, but no whole numbers here.
    return isinstance(thing, int) and not isinstance(thing, bool)


def is_whole_between(thing, least, most):
    """Tell whether a thing is a whole number from least to most."""
    return is_whole(thing) and least <= thing <= most


def is_number(bound, thing):
    """Tell whether a thing is one of the numbers of the bound."""
    return is_whole_between(thing, 0, bound - 1)


def is_row(bound, thing):
    """Tell whether a thing is a tuple of numbers of the bound, however many."""
    return isinstance(thing, tuple) and all(is_number(bound, number) for number in thing)


def fits_function(bound, thing):
    """Tell whether a thing is a function by what is known to be a bound."""
    return is_row(bound, thing) and len(thing) == bound


def fits_poly(bound, thing):
    """Tell whether a thing is a polynomial by what is known to be a bound."""
    return is_row(bound, thing) and (len(thing) == 0 or thing[-1] != 0)


def check_bound(bound):
    """Refuse what is no bound."""
    if not is_whole_between(bound, LEAST_BOUND, GREATEST_BOUND):
        raise NoBound(f"a bound is a whole number from {LEAST_BOUND} to {GREATEST_BOUND}")


def check_bound_to(bound, most):
    """Refuse what is no bound, then a bound that is greater than most."""
    check_bound(bound)
    if bound > most:
        raise TooGreat(bound, most)


def check_prime(prime):
    """Refuse what is no bound, then a bound that is no prime."""
    check_bound(prime)
    if prime not in PRIMES:
        raise NoPrime(f"{prime} is no prime")


def check_whole(number):
    """Refuse what is no whole number."""
    if not is_whole(number):
        raise NoNumber("a whole number is wanted here")


def check_between(number, least, most):
    """Refuse what is no whole number from least to most."""
    if not is_whole_between(number, least, most):
        raise NoNumber(f"a whole number from {least} to {most} is wanted here")


def check_number(bound, number):
    """Refuse what is no number of the bound, which was looked at before."""
    check_between(number, 0, bound - 1)


def check_times(k):
    """Refuse what does not tell how often a thing is done."""
    check_between(k, 0, MOST_TIMES)


def check_function(bound, function):
    """Refuse what is no bound, then what is no function by it."""
    check_bound(bound)
    if not fits_function(bound, function):
        raise NoFunction(f"a function by {bound} is a tuple of {bound} numbers from 0 to {bound - 1}")


def check_poly(bound, poly):
    """Refuse what is no bound, then what is no polynomial by it."""
    check_bound(bound)
    if not fits_poly(bound, poly):
        raise NoPoly(f"a polynomial by {bound} is a tuple of numbers from 0 to {bound - 1}, the last one not 0")


def check_list(things, least, most):
    """Refuse what is no list of from least to most things."""
    if not isinstance(things, list) or not least <= len(things) <= most:
        raise NoList(-1)


def check_each_function(bounds, things):
    """Refuse the first one of as many things as bounds that is no function by its bound."""
    for at, bound in enumerate(bounds):
        if not fits_function(bound, things[at]):
            raise NoList(at)
