"""Polynomials put together: sums, products, one within another, slopes and what is left."""

from onceeach.checks import check_poly
from onceeach.errors import Apart
from onceeach.numbers import find_back
from onceeach.polys import poly_of


def plus(bound, one, other):
    """Tell the sum of two polynomials."""
    check_poly(bound, one)
    check_poly(bound, other)
    most = max(len(one), len(other))
    return poly_of(bound, [number_at(one, k) + number_at(other, k) for k in range(most)])


def times(bound, one, other):
    """Tell the product of two polynomials."""
    check_poly(bound, one)
    check_poly(bound, other)
    product = [0] * (len(one) + len(other))
    for k, number in enumerate(one):
        for j, factor in enumerate(other):
            product[k + j] += number * factor
    return poly_of(bound, product)


def within(bound, one, other):
    """Tell the first polynomial with the second one put in the place of x."""
    check_poly(bound, one)
    check_poly(bound, other)
    whole = ()
    for number in reversed(one):
        whole = plus(bound, times(bound, whole, other), poly_of(bound, [number]))
    return whole


def slope(bound, poly):
    """Tell the polynomial whose number at k is k + 1 times the one at k + 1."""
    check_poly(bound, poly)
    return poly_of(bound, [k * poly[k] for k in range(1, len(poly))])


def shared(bound, one, other):
    """Tell how often the second polynomial goes into the first one, and what is left."""
    check_poly(bound, one)
    check_poly(bound, other)
    back = back_of_last(bound, other)
    left = list(one)
    places = max(0, len(one) - len(other) + 1)
    often = [0] * places
    # From the greatest place down: each step takes away the last number that still is too far behind.
    for at in reversed(range(places)):
        factor = left[at + len(other) - 1] * back % bound
        often[at] = factor
        for k, number in enumerate(other):
            left[at + k] = (left[at + k] - factor * number) % bound
    return (poly_of(bound, often), poly_of(bound, left))


def number_at(poly, k):
    """Tell the number at a place of a polynomial, 0 behind its last one."""
    return poly[k] if k < len(poly) else 0


def back_of_last(bound, poly):
    """Tell the back of a polynomial's last number, refused where there is none."""
    if len(poly) == 0:
        raise Apart("nothing is shared by the polynomial without numbers")
    back = find_back(bound, poly[-1])
    if back is None:
        raise Apart(f"the last number, {poly[-1]}, has no back by {bound}")
    return back
