"""Papers that no polynomial tells a function, and how many functions are told."""

from onceeach.checks import check_bound, check_function, is_number, is_whole_between
from onceeach.steps import first_untold_place, part_at, steps_of


def untold_holds(bound, function, thing):
    """Tell whether a thing is a paper that no polynomial tells the function."""
    check_function(bound, function)
    if not isinstance(thing, tuple):
        return False
    if len(thing) == 2 and thing[0] == "step":
        return step_holds(bound, function, thing[1])
    if len(thing) == 4 and thing[0] == "rests":
        return rests_hold(bound, function, thing[1:])
    return False


def why_untold(bound, function):
    """Tell the paper of the least step that is no multiple of its part, None where the function is told."""
    k = first_untold_place(bound, function)
    return None if k is None else ("step", k)


def told_many(bound):
    """Tell how many functions by the bound some polynomial tells."""
    check_bound(bound)
    # Each told function has one row of falls, and the fall at k is any number below the bound through part k.
    many = 1
    for k in range(bound):
        many *= bound // part_at(bound, k)
    return many


def step_holds(bound, function, k):
    """Tell whether k is a place where the step is no multiple of its part."""
    return is_number(bound, k) and steps_of(bound, function)[k] % part_at(bound, k) != 0


def rests_hold(bound, function, told):
    """Tell whether two numbers have one rest by a number that goes into the bound, and their worths have not."""
    d, a, b = told
    if not is_whole_between(d, 2, bound) or bound % d != 0:
        return False
    if not is_number(bound, a) or not is_number(bound, b):
        return False
    return (a - b) % d == 0 and (function[a] - function[b]) % d != 0
