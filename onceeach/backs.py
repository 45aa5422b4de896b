"""Polynomials of worths turned back, and of worths done many times."""

from onceeach.functions import again, turned_back
from onceeach.polys import worths
from onceeach.steps import poly_by


def back_poly(bound, poly):
    """Tell the polynomial that tells the worths turned back."""
    return poly_by(bound, turned_back(bound, worths(bound, poly)))


def done_poly(bound, poly, k):
    """Tell the polynomial that tells the worths done k times, one behind the other."""
    return poly_by(bound, again(bound, worths(bound, poly), k))
