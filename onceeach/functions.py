"""Functions by a bound: tuples whose worth at x is the number at place x."""

from onceeach.checks import check_bound, check_function, check_times, fits_function
from onceeach.errors import Apart
from onceeach.numbers import joined_often


def is_function(bound, thing):
    """Tell whether a thing is a function by the bound."""
    check_bound(bound)
    return fits_function(bound, thing)


def put_in(bound, one, other):
    """Tell the function that does the other one first, then this one."""
    check_function(bound, one)
    check_function(bound, other)
    return tuple(one[worth] for worth in other)


def again(bound, function, k):
    """Tell the function that does this one k times, one behind the other."""
    check_function(bound, function)
    check_times(k)
    resting = tuple(range(bound))
    return joined_often(resting, function, k, lambda one, other: put_in(bound, one, other))


def is_once(bound, function):
    """Tell whether no two numbers have one worth."""
    return first_clash(bound, function) is None


def first_clash(bound, function):
    """Tell the first two numbers with one worth, None where there are none."""
    check_function(bound, function)
    for a in range(bound):
        for b in range(a + 1, bound):
            if function[a] == function[b]:
                return (a, b)
    return None


def missed(bound, function):
    """Tell the rising tuple of the numbers that are no worth."""
    check_function(bound, function)
    return tuple(number for number in range(bound) if number not in function)


def turned_back(bound, function):
    """Tell the function that leads each worth to its number."""
    check_once(bound, function)
    back = [0] * bound
    for number, worth in enumerate(function):
        back[worth] = number
    return tuple(back)


def check_once(bound, function):
    """Refuse what is no bound, then what is no function by it, then a function that is not once."""
    if not is_once(bound, function):
        raise Apart("two numbers have one worth")
