"""The steps of a function, and the polynomial that tells it."""

from onceeach.checks import check_function
from onceeach.errors import Apart
from onceeach.polys import poly_of, without_noughts_behind
from onceeach.sums import plus, times


def steps_of(bound, function):
    """Tell the first of the worths, of what each is more than the one ahead, of what these are more, and so on."""
    check_function(bound, function)
    steps = []
    row = list(function)
    while len(row) > 0:
        steps.append(row[0])
        row = [(after - ahead) % bound for ahead, after in zip(row, row[1:])]
    return tuple(steps)


def is_told(bound, function):
    """Tell whether some polynomial tells the function."""
    return first_untold_place(bound, function) is None


def falls_of(bound, function):
    """Tell how often each x (x - 1) .. (x - k + 1) is taken in the sum that has the function as its worths."""
    if not is_told(bound, function):
        raise Apart("no polynomial tells this function")
    return without_noughts_behind([fall_of(bound, k, step) for k, step in enumerate(steps_of(bound, function))])


def poly_by(bound, function):
    """Tell the polynomial, made of its falls, that tells the function."""
    falls = falls_of(bound, function)
    whole = ()
    # c0 + x (c1 + (x - 1) (c2 + ..)), from the innermost bracket outwards.
    for k in reversed(range(len(falls))):
        whole = plus(bound, times(bound, whole, poly_of(bound, [-k, 1])), poly_of(bound, [falls[k]]))
    return whole


def first_untold_place(bound, function):
    """Tell the least place whose step is no multiple of its part, None where there is none."""
    for k, step in enumerate(steps_of(bound, function)):
        if step % part_at(bound, k) != 0:
            return k
    return None


def part_at(bound, k):
    """Tell the greatest number that goes into the bound and into 1 * 2 * .. * k."""
    product = product_to(k)
    return max(part for part in range(1, bound + 1) if bound % part == 0 and product % part == 0)


def product_to(k):
    """Tell 1 * 2 * .. * k, 1 where k is 0."""
    product = 1
    for factor in range(1, k + 1):
        product *= factor
    return product


def fall_of(bound, k, step):
    """Tell the least number that times 1 * 2 * .. * k has the step as its rest."""
    # The least one is below the bound through part k; it is there where the step is a multiple of part k.
    product = product_to(k)
    return min(fall for fall in range(bound) if fall * product % bound == step)
