"""Polynomials by a power of a prime, known by the prime alone."""

from onceeach.checks import check_bound, check_number, check_poly, is_number
from onceeach.clashes import pair_holds
from onceeach.errors import NoPower
from onceeach.functions import first_clash
from onceeach.polys import poly_of, worth_at, worths
from onceeach.sums import slope

# The powers of two factors or more among the bounds, each with its prime and how many factors it has.
BASES = {4: (2, 2), 8: (2, 3), 9: (3, 2), 16: (2, 4)}


def base_of(power):
    """Tell the prime of a power, and how many factors it has."""
    check_power(power)
    return BASES[power]


def once_on(power, poly):
    """Tell whether the worths of a polynomial by the power are once."""
    return why_stuck(power, poly) is None


def stuck_holds(power, poly, thing):
    """Tell whether a thing is a paper that the worths of a polynomial by the power are not once."""
    check_power(power)
    check_poly(power, poly)
    if not isinstance(thing, tuple):
        return False
    prime = BASES[power][0]
    if len(thing) == 3 and thing[0] == "clash":
        return pair_holds(prime, worths(prime, small_poly(prime, poly)), thing[1], thing[2])
    if len(thing) == 2 and thing[0] == "slope":
        return slope_sticks(prime, small_poly(prime, poly), thing[1])
    return False


def why_stuck(power, poly):
    """Tell a paper that the worths of a polynomial by the power are not once, None where they are."""
    check_power(power)
    check_poly(power, poly)
    prime = BASES[power][0]
    small = small_poly(prime, poly)
    clash = first_clash(prime, worths(prime, small))
    if clash is not None:
        return ("clash", *clash)
    for x in range(prime):
        if slope_sticks(prime, small, x):
            return ("slope", x)
    return None


def lifts(power, poly, c, x):
    """Tell the rising tuple of the numbers with the rest x by the power through its prime, and the worth c."""
    check_power(power)
    check_poly(power, poly)
    check_number(power, c)
    below = power // BASES[power][0]
    check_number(below, x)
    return tuple(number for number in range(x, power, below) if worth_at(power, poly, number) == c)


def check_power(power):
    """Refuse what is no bound, then a bound that is no power of a prime, of two factors or more."""
    check_bound(power)
    if power not in BASES:
        raise NoPower(f"{power} is no power of a prime, of two factors or more")


def small_poly(prime, poly):
    """Tell the polynomial by the prime of the rests of a polynomial's numbers."""
    return poly_of(prime, list(poly))


def slope_sticks(prime, small, x):
    """Tell whether x is a number of the prime at which the slope has the worth 0 by it."""
    return is_number(prime, x) and worth_at(prime, slope(prime, small), x) == 0
