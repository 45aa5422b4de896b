"""Lines: functions whose worth at x is the rest of a x + b."""

from onceeach.checks import check_bound, check_function, check_number


def line(bound, a, b):
    """Tell the function whose worth at x is the rest of a x + b."""
    check_bound(bound)
    check_number(bound, a)
    check_number(bound, b)
    return tuple((a * x + b) % bound for x in range(bound))


def is_line(bound, function):
    """Tell the numbers a and b of the line that a function is, None where it is none."""
    check_function(bound, function)
    # The worths at 0 and at 1 leave no choice of b and a.
    b = function[0]
    a = (function[1] - b) % bound
    return (a, b) if function == line(bound, a, b) else None
