"""10.1: functions and polynomials as texts."""

import copy

from onceeach.errors import NoBound, NoFunction, NoText
from onceeach.texts import function_read, poly_read, shown
from tests.common import BOUNDS, NO_BOUNDS, Refusals, identity, no_numbers, some_functions, some_polys

READERS = (function_read, poly_read)
NO_TEXTS = [None, True, False, 0, 1, -1, 10 ** 30, [], (), {}, ["0 1"], ("0", "1"), (0, 1), [0, 1], {"0 1": "0 1"}]
# Words that write no number of any bound.
NO_NUMBER_WORDS = [
    "", "00", "01", "007", "-1", "-0", "+1", "1.", "1.0", "1,", "x", "none", "None", "True", "a", "0x1", "1_0", "16", "17",
    "99", "100", "1" * 31, "\t", "1\t", "\n", "1\n", "'1'", "(1)", "\u00b2", "\u0661", "\uff11", "\u2460", "~", "1e0",
]


def text_due(numbers):
    return " ".join(map(str, numbers)) if numbers else "none"


class TestShown(Refusals):

    def test_arguments(self):
        self.takes(shown, "thing")
        self.same("0 1", shown(thing=(0, 1)))

    def test_functions_and_polynomials(self):
        for bound in BOUNDS:
            for row in some_functions(bound) + some_polys(bound):
                self.same(text_due(row), shown(row))

    def test_known(self):
        self.same("none", shown(()))
        self.same("0", shown((0,)))
        self.same("15", shown((15,)))
        self.same("0 0 0", shown((0, 0, 0)))
        self.same("0 1 2 3 4 5 6 7 8 9 10 11 12 13 14 15", shown(identity(16)))
        self.same(" ".join(["15"] * 100), shown((15,) * 100))

    def test_what_is_none(self):
        found = [None, True, False, 0, 1, 15, -1, 10 ** 30, "", "0 1", "none", [], [0, 1], {}, {0: 1}, ((),), ((0, 1),)]
        for wrong in no_numbers(16):
            found += [(wrong,), (0, wrong), (wrong, 0), (1, wrong, 1)]
        for wrong in found:
            kept = copy.deepcopy(wrong)
            self.refused(NoFunction, shown, wrong)
            self.same(kept, wrong)


class TestBothReaders(Refusals):

    def test_arguments(self):
        for call in READERS:
            self.takes(call, "bound", "text")
            self.same((0, 1), call(text="0 1", bound=2))

    def test_no_text(self):
        for call in READERS:
            for bound in BOUNDS:
                for wrong in NO_TEXTS:
                    kept = copy.deepcopy(wrong)
                    self.same(-1, self.refused(NoText, call, bound, wrong).at)
                    self.same(kept, wrong)

    def test_no_bound_first(self):
        for call in READERS:
            for wrong in NO_BOUNDS:
                for text in ("0 1", "", "none", None, 0):
                    self.refused(NoBound, call, wrong, text)

    def test_first_word_that_writes_no_number(self):
        for call in READERS:
            for bound in BOUNDS:
                words = [str(number) for number in identity(bound)]
                for at in range(bound):
                    for wrong in NO_NUMBER_WORDS + [str(bound), str(bound + 1), f"0{bound - 1}"]:
                        text = " ".join(words[:at] + [wrong] + words[at + 1:])
                        self.same(at, self.refused(NoText, call, bound, text).at)

    def test_first_of_several(self):
        for call in READERS:
            self.same(1, self.refused(NoText, call, 5, "0 x 2 x 4").at)
            self.same(0, self.refused(NoText, call, 5, "5 1 2 3 x").at)
            # A wrong word is told ahead of a wrong number of words, and of a last number 0.
            self.same(6, self.refused(NoText, call, 5, "0 1 2 3 4 0 x 0").at)
            self.same(0, self.refused(NoText, call, 5, "x 0").at)

    def test_blanks(self):
        for call in READERS:
            self.same(0, self.refused(NoText, call, 3, " 0 1 2").at)
            self.same(3, self.refused(NoText, call, 3, "0 1 2 ").at)
            self.same(1, self.refused(NoText, call, 3, "0  1 2").at)
            self.same(2, self.refused(NoText, call, 3, "0 1  2").at)
            self.same(0, self.refused(NoText, call, 3, "").at)
            self.same(0, self.refused(NoText, call, 3, " ").at)
            self.same(0, self.refused(NoText, call, 3, "  ").at)

    def test_other_signs_part_nothing(self):
        for call in READERS:
            for sign in "\t\n,;._-":
                self.same(0, self.refused(NoText, call, 2, f"0{sign}1").at)
                self.same(1, self.refused(NoText, call, 2, f"0 1{sign}").at)

    def test_none_with_more(self):
        for call in READERS:
            for text in ("none ", " none", "none none", "none 1", "None", "NONE", "non", "nones"):
                self.same(0, self.refused(NoText, call, 2, text).at)
            self.same(1, self.refused(NoText, call, 2, "1 none").at)

    def test_same_answer_again(self):
        for call in READERS:
            texts = [shown(identity(bound)) for bound in BOUNDS]
            first = [call(bound, text) for bound, text in zip(BOUNDS, texts)]
            again = [call(bound, text) for bound, text in reversed(list(zip(BOUNDS, texts)))]
            self.same(first[::-1], again)


class TestFunctionRead(Refusals):

    def test_what_shown_tells(self):
        for bound in BOUNDS:
            for function in some_functions(bound):
                self.same(function, function_read(bound, shown(function)))
                self.same(function, function_read(bound, text_due(function)))

    def test_another_number_of_words(self):
        for bound in BOUNDS:
            for many in list(range(1, bound)) + [bound + 1, bound + 2, 40]:
                self.same(many, self.refused(NoText, function_read, bound, " ".join(["1"] * many)).at)
                self.same(many, self.refused(NoText, function_read, bound, " ".join(["0"] * many)).at)

    def test_none_is_no_function(self):
        for bound in BOUNDS:
            self.same(0, self.refused(NoText, function_read, bound, "none").at)

    def test_last_number_may_be_nought(self):
        self.same((1, 0), function_read(2, "1 0"))
        self.same((0,) * 16, function_read(16, text_due((0,) * 16)))


class TestPolyRead(Refusals):

    def test_what_shown_tells(self):
        for bound in BOUNDS:
            for poly in some_polys(bound):
                self.same(poly, poly_read(bound, shown(poly)))
                self.same(poly, poly_read(bound, text_due(poly)))

    def test_none(self):
        for bound in BOUNDS:
            self.same((), poly_read(bound, "none"))

    def test_last_number_nought(self):
        for bound in BOUNDS:
            for many in (1, 2, 3, bound, bound + 1, 40):
                self.same(many, self.refused(NoText, poly_read, bound, " ".join(["1"] * (many - 1) + ["0"])).at)
                self.same(many, self.refused(NoText, poly_read, bound, " ".join(["0"] * many)).at)

    def test_any_number_of_words(self):
        for bound in BOUNDS:
            for many in (1, 2, bound - 1, bound, bound + 1, 100):
                self.same((0,) * (many - 1) + (1,), poly_read(bound, " ".join(["0"] * (many - 1) + ["1"])))
