"""Numbers by a bound: rests, powers and backs."""

from onceeach.checks import check_bound, check_number, check_times, check_whole
from onceeach.errors import Apart


def rest(bound, number):
    """Tell the number of the bound from which a whole number differs by a multiple of it."""
    check_bound(bound)
    check_whole(number)
    return number % bound


def raised(bound, number, k):
    """Tell the rest of a number multiplied by itself k times, 1 for none."""
    check_bound(bound)
    check_number(bound, number)
    check_times(k)
    return joined_often(1, number, k, lambda one, other: one * other % bound)


def back_of(bound, number):
    """Tell the number that times this one has the rest 1."""
    check_bound(bound)
    check_number(bound, number)
    back = find_back(bound, number)
    if back is None:
        raise Apart(f"{number} has no back by {bound}")
    return back


def units(bound):
    """Tell the rising list of the numbers that have a back."""
    check_bound(bound)
    return [number for number in range(bound) if find_back(bound, number) is not None]


def find_back(bound, number):
    """Tell the back of a number, None where there is none."""
    for other in range(bound):
        if number * other % bound == 1:
            return other
    return None


def greatest_in_both(one, other):
    """Tell the greatest number that goes into two whole numbers from 1 on."""
    while other > 0:
        one, other = other, one % other
    return one


def joined_often(none, one, k, join_two):
    """Tell k times one joined to another, none where k is 0."""
    # Doubling and halving keeps it at some hundred joinings even for 10 ** 30 times.
    whole = none
    doubled = one
    left = k
    while left > 0:
        if left % 2 == 1:
            whole = join_two(whole, doubled)
        doubled = join_two(doubled, doubled)
        left = left // 2
    return whole
