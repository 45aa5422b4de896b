"""The desk, which keeps a bound and a function by it, and is told rows."""

from onceeach.bysums import power_sums
from onceeach.checks import check_bound, check_number
from onceeach.counts import number_of
from onceeach.errors import NoRow
from onceeach.functions import again, first_clash, is_once, missed, put_in, turned_back
from onceeach.lines import is_line, line
from onceeach.polys import worths
from onceeach.rounds import course, fixed, order_of, rounds_of
from onceeach.steps import poly_by
from onceeach.texts import NOTHING, function_read, number_read, poly_read, written

FIRST_STATE = (2, (0, 1))
# A number of a row has at most two figures.
NUMBERS_TAKEN = 100


class Desk:
    """A desk, which is told rows, deeds and questions, one at a time."""

    def __init__(self):
        # Behind the first one stands what each deed that stands has left, so undoing takes the last one away.
        self.states = [FIRST_STATE]

    def say(self, row):
        """Tell the answer to a row."""
        if not isinstance(row, str):
            raise NoRow("a row is a text")
        if row == "undo":
            if len(self.states) == 1:
                raise NoRow("no deed stands that could be undone")
            self.states.pop()
            return "ok"
        bound, function = self.states[-1]
        state = state_behind(bound, function, row)
        if state is None:
            return answer_text(answer_to(bound, function, row.split(" ")))
        self.states.append(state)
        return "ok"


def state_behind(bound, function, row):
    """Tell the bound and the function that a deed leaves, None where the row is no deed."""
    word, blank, text = row.partition(" ")
    if blank == " " and word in ("function", "poly", "in"):
        return (bound, function_told(bound, function, word, text))
    match row.split(" "):
        case ["bound", m]:
            return first_by(row_number(m))
        case ["line", a, b]:
            return (bound, line(bound, row_number(a), row_number(b)))
        case ["again", k]:
            return (bound, again(bound, function, row_number(k)))
        case ["back"]:
            return (bound, turned_back(bound, function))
    return None


def function_told(bound, function, word, text):
    """Tell the function that a deed with a text leaves."""
    if word == "poly":
        return worths(bound, poly_read(bound, text))
    told = function_read(bound, text)
    return told if word == "function" else put_in(bound, function, told)


def first_by(bound):
    """Tell what a desk keeps when it is just told a bound."""
    check_bound(bound)
    return (bound, tuple(range(bound)))


def answer_to(bound, function, words):
    """Tell what a question asks for, refused where the words are none."""
    match words:
        case ["shown"]:
            return function
        case ["bound"]:
            return bound
        case ["once"]:
            return is_once(bound, function)
        case ["clash"]:
            return first_clash(bound, function)
        case ["missed"]:
            return missed(bound, function)
        case ["told"]:
            return poly_by(bound, function)
        case ["sums"]:
            return power_sums(bound, function)
        case ["rounds"]:
            return rounds_of(bound, function)
        case ["order"]:
            return order_of(bound, function)
        case ["course"]:
            return course(bound, function)
        case ["fixed"]:
            return fixed(bound, function)
        case ["line"]:
            return is_line(bound, function)
        case ["number"]:
            return number_of(bound, function)
        case ["at", k]:
            return worth_told(bound, function, row_number(k))
    raise NoRow("the desk knows no such row")


def worth_told(bound, function, number):
    """Tell the worth of a function at what is to be a number of the bound."""
    check_number(bound, number)
    return function[number]


def row_number(word):
    """Tell the number that a word of a row writes, refused where it writes none of so few figures."""
    number = number_read(word, NUMBERS_TAKEN)
    if number is None:
        raise NoRow("a whole number of at most two figures is wanted here")
    return number


def answer_text(answer):
    """Tell the text of an answer."""
    if answer is None:
        return NOTHING
    if isinstance(answer, bool):
        return "yes" if answer else "no"
    if isinstance(answer, int):
        return str(answer)
    if isinstance(answer, tuple):
        return written(answer)
    return "; ".join(written(numbers) for numbers in answer)
