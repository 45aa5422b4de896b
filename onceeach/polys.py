"""Polynomials by a bound: tuples whose number at place k belongs to x raised to k."""

from onceeach.checks import check_bound, check_number, check_poly, fits_poly, is_whole
from onceeach.errors import NoPoly


def is_poly(bound, thing):
    """Tell whether a thing is a polynomial by the bound."""
    check_bound(bound)
    return fits_poly(bound, thing)


def poly_of(bound, things):
    """Tell the polynomial of the rests of a list of whole numbers."""
    check_bound(bound)
    if not is_list_of_wholes(things):
        raise NoPoly("a list of whole numbers is wanted here")
    return without_noughts_behind([number % bound for number in things])


def worth_at(bound, poly, number):
    """Tell the worth of a polynomial at a number of the bound."""
    check_poly(bound, poly)
    check_number(bound, number)
    worth = 0
    for factor in reversed(poly):
        worth = (worth * number + factor) % bound
    return worth


def worths(bound, poly):
    """Tell the function of all worths of a polynomial."""
    check_poly(bound, poly)
    return tuple(worth_at(bound, poly, number) for number in range(bound))


def is_list_of_wholes(things):
    """Tell whether a thing is a list of whole numbers, perhaps of none."""
    return isinstance(things, list) and all(is_whole(number) for number in things)


def without_noughts_behind(numbers):
    """Tell the tuple of a list of numbers up to the last one that is not 0."""
    many = len(numbers)
    while many > 0 and numbers[many - 1] == 0:
        many -= 1
    return tuple(numbers[:many])
