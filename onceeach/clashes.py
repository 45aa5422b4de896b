"""Papers that a function by a prime is not once."""

from onceeach.bysums import power_sum, power_sums
from onceeach.checks import check_function, check_prime, is_number, is_whole, is_whole_between


def clash_holds(prime, function, thing):
    """Tell whether a thing is a paper that the function is not once."""
    check_prime(prime)
    check_function(prime, function)
    if not isinstance(thing, tuple):
        return False
    if len(thing) == 3 and thing[0] == "clash":
        return pair_holds(prime, function, thing[1], thing[2])
    if len(thing) != 2:
        return False
    if thing[0] == "missed":
        return is_number(prime, thing[1]) and thing[1] not in function
    if thing[0] == "sum":
        return is_whole_between(thing[1], 1, prime - 2) and power_sum(prime, function, thing[1]) != 0
    if thing[0] == "noughts":
        return is_whole(thing[1]) and thing[1] == function.count(0) and thing[1] != 1
    return False


def why_clash(prime, function):
    """Tell the paper of the least sum that is not 0, else that of the noughts, None where the function is once."""
    for t, total in enumerate(power_sums(prime, function)[:-1], start=1):
        if total != 0:
            return ("sum", t)
    # The last sum is the rest of 0 less the noughts: all others being 0, it is that of a once function
    # just where one number alone has the worth 0.
    noughts = function.count(0)
    return None if noughts == 1 else ("noughts", noughts)


def pair_holds(prime, function, a, b):
    """Tell whether a and b are two numbers with one worth, the lesser one first."""
    if not is_number(prime, a) or not is_number(prime, b):
        return False
    return a < b and function[a] == function[b]
