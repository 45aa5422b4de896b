"""Complete functions: those that are once, and stay so with their number put to each worth."""

from onceeach.checks import check_bound_to, check_function, is_row
from onceeach.errors import NoFunction

MOST_BOUND = 7


def is_complete(bound, function):
    """Tell whether a function is complete."""
    check_function(bound, function)
    return begins_complete(bound, function)


def complete_from(bound, ahead):
    """Tell the first complete function that begins with these numbers, None where there is none."""
    check_bound_to(bound, MOST_BOUND)
    if not is_row(bound, ahead) or len(ahead) > bound:
        raise NoFunction(f"a tuple of at most {bound} numbers from 0 to {bound - 1} is wanted here")
    found = all_complete_from(bound, ahead)
    return found[0] if len(found) > 0 else None


def complete_many(bound):
    """Tell how many complete functions there are."""
    check_bound_to(bound, MOST_BOUND)
    return len(all_complete_from(bound, ()))


def begins_complete(bound, row):
    """Tell whether no two numbers of a row are alike, nor two with their places put to them."""
    sums = [(number + place) % bound for place, number in enumerate(row)]
    return len(set(row)) == len(row) and len(set(sums)) == len(sums)


def all_complete_from(bound, ahead):
    """Tell the rising list of all complete functions that begin with a row of numbers."""
    rows = [ahead] if begins_complete(bound, ahead) else []
    # By the greatest bound taken there are never more than some hundred rows, so they can all be kept.
    for place in range(len(ahead), bound):
        longer = [row + (number,) for row in rows for number in range(bound)]
        rows = [row for row in longer if begins_complete(bound, row)]
    return rows
