"""Functions and polynomials written as texts, and read again."""

from onceeach.checks import GREATEST_BOUND, check_bound, fits_poly, is_row
from onceeach.errors import NoFunction, NoText

NOTHING = "none"


def shown(thing):
    """Tell the text of a tuple of numbers."""
    if not is_row(GREATEST_BOUND, thing):
        raise NoFunction(f"a tuple of whole numbers from 0 to {GREATEST_BOUND - 1} is wanted here")
    return written(thing)


def function_read(bound, text):
    """Tell the function that a text writes."""
    numbers = numbers_read(bound, text)
    if len(numbers) != bound:
        raise NoText(len(numbers))
    return numbers


def poly_read(bound, text):
    """Tell the polynomial that a text writes."""
    check_bound(bound)
    if text == NOTHING:
        return ()
    numbers = numbers_read(bound, text)
    if not fits_poly(bound, numbers):
        raise NoText(len(numbers))
    return numbers


def written(numbers):
    """Tell the text of a row of whole numbers, however great."""
    if len(numbers) == 0:
        return NOTHING
    return " ".join(str(number) for number in numbers)


def number_read(word, many):
    """Tell the number from 0 to one less than many that a word writes, None where it writes none."""
    # Compared with what is written, not read by int, which also takes signs, noughts ahead and other figures.
    for number in range(many):
        if word == str(number):
            return number
    return None


def numbers_read(bound, text):
    """Tell the numbers of the bound that the words of a text write."""
    check_bound(bound)
    if not isinstance(text, str):
        raise NoText(-1)
    numbers = []
    for at, word in enumerate(text.split(" ")):
        number = number_read(word, bound)
        if number is None:
            raise NoText(at)
        numbers.append(number)
    return tuple(numbers)
