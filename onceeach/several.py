"""What several functions make when they are done one behind the other."""

from onceeach.checks import check_bound_to, check_each_function, check_function, check_list, fits_function

MOST_BOUND = 5
MOST_FUNCTIONS = 3


def reached(bound, functions):
    """Tell how many functions all ways make."""
    check_several(bound, functions)
    return len(ways_to_all(bound, functions))


def way_to(bound, functions, function):
    """Tell the shortest way that makes a function, of such the least, None where there is none."""
    check_several(bound, functions)
    check_function(bound, function)
    return ways_to_all(bound, functions).get(function)


def ring_holds(bound, functions, thing):
    """Tell whether a thing is a ring of the functions: a rising tuple that has them and what they lead to."""
    check_several(bound, functions)
    if not is_rising(bound, thing):
        return False
    inside = {function: True for function in thing}
    if not all(function in inside for function in functions):
        return False
    return all(done_behind(one, function) in inside for one in thing for function in functions)


def ring_of(bound, functions):
    """Tell the ring of the functions with the fewest in it."""
    check_several(bound, functions)
    return tuple(sorted(ways_to_all(bound, functions)))


def check_several(bound, functions):
    """Refuse what is no bound, then one that is too great, then what is no list of one to three functions by it."""
    check_bound_to(bound, MOST_BOUND)
    check_list(functions, 1, MOST_FUNCTIONS)
    check_each_function([bound] * len(functions), functions)


def ways_to_all(bound, functions):
    """Tell the dict of all functions that ways make, each with the shortest way to it, of such the least."""
    ways = {}
    # The way of no places is gone on from, but it makes nothing, so it does not stand among the ways.
    waiting = [((), tuple(range(bound)))]
    at = 0
    # Shorter ways wait ahead of longer ones, and lesser ones ahead of greater ones: the first one met is the one told.
    while at < len(waiting):
        way, made = waiting[at]
        for place, function in enumerate(functions):
            after = done_behind(made, function)
            if after not in ways:
                ways[after] = way + (place,)
                waiting.append((ways[after], after))
        at += 1
    return ways


def done_behind(one, function):
    """Tell what one function and then another make."""
    return tuple(function[worth] for worth in one)


def is_rising(bound, thing):
    """Tell whether a thing is a rising tuple of functions."""
    if not isinstance(thing, tuple) or not all(fits_function(bound, function) for function in thing):
        return False
    return all(one < other for one, other in zip(thing, thing[1:]))
