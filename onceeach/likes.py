"""Functions alike: one is the other between two lines that are once."""

from onceeach.checks import check_bound_to, check_function, is_row
from onceeach.numbers import find_back, units

MOST_BOUND = 8


def alike_holds(bound, one, other, thing):
    """Tell whether a thing is a tuple (a, b, c, d) that shows that two functions are alike."""
    check_function(bound, one)
    check_function(bound, other)
    if not is_row(bound, thing) or len(thing) != 4:
        return False
    if find_back(bound, thing[0]) is None or find_back(bound, thing[1]) is None:
        return False
    return between_lines(bound, one, thing) == other


def why_alike(bound, one, other):
    """Tell the first tuple (a, b, c, d) that shows that two functions are alike, None where there is none."""
    check_bound_to(bound, MOST_BOUND)
    check_function(bound, one)
    check_function(bound, other)
    for told in lines_by_start(bound, one, other[0]):
        if between_lines(bound, one, told) == other:
            return told
    return None


def least_alike(bound, function):
    """Tell the least function that is alike to one."""
    check_bound_to(bound, MOST_BOUND)
    check_function(bound, function)
    # Some d brings the worth at 0 to 0, so the least one begins with 0.
    return min([between_lines(bound, function, told) for told in lines_by_start(bound, function, 0)])


def between_lines(bound, function, told):
    """Tell the function whose worth at x is the rest of a f(b x + c) + d."""
    a, b, c, d = told
    return tuple((a * function[(b * x + c) % bound] + d) % bound for x in range(bound))


def lines_by_start(bound, function, start):
    """Tell the rising list of all (a, b, c, d) that make a function with the worth start at 0."""
    backed = units(bound)
    # Behind a, b and c, the worth at 0 leaves no choice of d.
    return [
        (a, b, c, (start - a * function[c]) % bound) for a in backed for b in backed for c in range(bound)
    ]
