"""The rounds of a function that is once, and where doing a function many times comes round."""

from onceeach.checks import check_function
from onceeach.functions import check_once, put_in
from onceeach.numbers import greatest_in_both


def rounds_of(bound, function):
    """Tell the list of the rounds of a function that is once, by their least numbers."""
    check_once(bound, function)
    found = []
    for number in range(bound):
        numbers = round_from(function, number)
        # Each round is met once from each of its numbers, and wanted from its least one.
        if min(numbers) == number:
            found.append(numbers)
    return found


def order_of(bound, function):
    """Tell the least number of times from 1 on after which a function that is once leads each number to itself."""
    order = 1
    for numbers in rounds_of(bound, function):
        order = order // greatest_in_both(order, len(numbers)) * len(numbers)
    return order


def is_even(bound, function):
    """Tell whether the bound less the number of rounds is even."""
    return (bound - len(rounds_of(bound, function))) % 2 == 0


def fixed(bound, function):
    """Tell the rising tuple of the numbers that are their own worth."""
    check_function(bound, function)
    return tuple(number for number in range(bound) if function[number] == number)


def course(bound, function):
    """Tell after how many doings a function comes round, and how many doings it then takes each time."""
    check_function(bound, function)
    first_times = {}
    done = tuple(range(bound))
    # At most some hundred and fifty doings are unlike, so they can be gone through.
    while done not in first_times:
        first_times[done] = len(first_times)
        done = put_in(bound, function, done)
    ahead = first_times[done]
    return (ahead, len(first_times) - ahead)


def round_from(function, number):
    """Tell the round of a number, from it on, of a function that is known to be once."""
    numbers = [number]
    worth = function[number]
    while worth != number:
        numbers.append(worth)
        worth = function[worth]
    return tuple(numbers)
