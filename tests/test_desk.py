"""10.2, 10.3 and 10.4: the desk, its deeds, its questions, and the rows that it does not take."""

import copy
import itertools
from math import factorial

from onceeach.desk import Desk
from onceeach.errors import Apart, NoBound, NoNumber, NoPrime, NoRow, NoText
from tests.common import (
    BOUNDS, NO_PRIMES, PRIMES, Refusals, identity, some_functions, some_polys, worths_due,
)

PLAIN_QUESTIONS = (
    "shown bound once clash missed told sums rounds order course fixed line number".split()
)


def text_due(numbers):
    return " ".join(map(str, numbers)) if numbers else "none"


def desk_with(bound, function):
    desk = Desk()
    desk.say(f"bound {bound}")
    desk.say("function " + text_due(function))
    return desk


def all_answers(desk):
    """What a desk answers to each question, a refusal by its class and place."""
    found = []
    for row in list(PLAIN_QUESTIONS) + [f"at {k}" for k in range(17)]:
        try:
            found.append(desk.say(row))
        except ValueError as why:
            found.append((type(why).__name__, getattr(why, "at", None)))
    return found


def rounds_due(function):
    rounds = []
    for number in range(len(function)):
        if all(number not in found for found in rounds):
            found = [number]
            while function[found[-1]] != number:
                found.append(function[found[-1]])
            rounds.append(found)
    return "; ".join(text_due(found) for found in rounds)


def course_due(function):
    done = [identity(len(function))]
    while True:
        after = tuple(function[worth] for worth in done[-1])
        if after in done:
            return f"{done.index(after)} {len(done) - done.index(after)}"
        done.append(after)


class DeskTests(Refusals):

    def kept(self, desk, bound, function):
        """Want that a desk keeps this bound and this function."""
        self.same(str(bound), desk.say("bound"))
        self.same(text_due(function), desk.say("shown"))

    def deed(self, desk, row, bound, function):
        """Want that a deed leaves this bound and this function, and that undoing it brings back what was there."""
        ahead = all_answers(desk)
        self.same("ok", desk.say(row))
        self.kept(desk, bound, function)
        behind = all_answers(desk)
        self.same("ok", desk.say("undo"))
        self.same(ahead, all_answers(desk))
        self.same("ok", desk.say(row))
        self.same(behind, all_answers(desk))

    def refused_row(self, error, desk, row):
        """Want that a row is refused and changes nothing."""
        ahead = all_answers(desk)
        why = self.refused(error, desk.say, row)
        self.same(ahead, all_answers(desk))
        return why


class TestDeeds(DeskTests):

    def test_arguments(self):
        self.takes(Desk)
        self.takes(Desk().say, "row")
        self.assertIn("say", vars(Desk))
        self.same("0 1", Desk().say(row="shown"))

    def test_at_first(self):
        self.kept(Desk(), 2, (0, 1))

    def test_bound(self):
        for bound in BOUNDS:
            desk = Desk()
            self.deed(desk, f"bound {bound}", bound, identity(bound))
            self.deed(desk, "function " + text_due((1,) * bound), bound, (1,) * bound)
            # The function is a new one, also where the bound was that already.
            self.deed(desk, f"bound {bound}", bound, identity(bound))

    def test_no_bound(self):
        desk = desk_with(3, (1, 1, 2))
        for number in [0, 1] + list(range(17, 100)):
            self.refused_row(NoBound, desk, f"bound {number}")
        self.kept(desk, 3, (1, 1, 2))

    def test_function(self):
        for bound in BOUNDS:
            desk = desk_with(bound, identity(bound))
            for function in some_functions(bound)[::5]:
                self.deed(desk, "function " + text_due(function), bound, function)

    def test_poly(self):
        for bound in BOUNDS:
            desk = desk_with(bound, (1,) * bound)
            for poly in some_polys(bound)[::5]:
                self.deed(desk, "poly " + text_due(poly), bound, worths_due(bound, poly))
            self.deed(desk, "poly none", bound, (0,) * bound)

    def test_line(self):
        for bound in BOUNDS:
            desk = desk_with(bound, (1,) * bound)
            for a, b in itertools.product({0, 1, bound // 2, bound - 1}, repeat=2):
                self.deed(desk, f"line {a} {b}", bound, tuple((a * x + b) % bound for x in range(bound)))
            for a, b in ((bound, 0), (0, bound), (bound, bound), (99, 0), (1, 99)):
                self.refused_row(NoNumber, desk, f"line {a} {b}")

    def test_in(self):
        for bound in BOUNDS:
            kept = tuple((3 * x + 1) % bound for x in range(bound - 1)) + (0,)
            desk = desk_with(bound, kept)
            for function in some_functions(bound)[::7]:
                # First the written one, then the kept one.
                kept_next = tuple(kept[worth] for worth in function)
                self.deed(desk, "in " + text_due(function), bound, kept_next)
                desk.say("undo")
        desk = desk_with(3, (1, 2, 0))
        desk.say("in 0 0 2")
        self.kept(desk, 3, (1, 1, 0))
        desk.say("in 2 2 1")
        self.kept(desk, 3, (0, 0, 1))

    def test_again(self):
        for bound in BOUNDS:
            turn = identity(bound)[1:] + (0,)
            desk = desk_with(bound, turn)
            for k in (0, 1, 2, 9, 10, 15, 99):
                self.deed(desk, f"again {k}", bound, tuple((x + k) % bound for x in range(bound)))
                desk.say("undo")
        desk = desk_with(4, (0, 0, 1, 2))
        self.deed(desk, "again 2", 4, (0, 0, 0, 1))
        self.deed(desk, "again 2", 4, (0, 0, 0, 0))
        self.deed(desk, "again 0", 4, (0, 1, 2, 3))

    def test_back(self):
        for bound in BOUNDS:
            turn = identity(bound)[1:] + (0,)
            desk = desk_with(bound, turn)
            self.deed(desk, "back", bound, (bound - 1,) + identity(bound)[:-1])
            self.deed(desk, "back", bound, turn)
            self.deed(desk, "function " + text_due((1,) * bound), bound, (1,) * bound)
            self.refused_row(Apart, desk, "back")

    def test_texts_refused(self):
        for bound in BOUNDS:
            desk = desk_with(bound, (1,) * bound)
            one = text_due(identity(bound))
            cases = [("", 0), (" ", 0), (" " + one, 0), (one + " ", bound), (one.replace(" ", "  ", 1), 1), ("x", 0)]
            cases += [("0 " + one.replace(" 1", " 01", 1), 2), (str(bound), 0), ("1 -1", 1), ("1 1 16", 2), ("None", 0)]
            for word in ("function", "poly", "in"):
                for text, at in cases:
                    self.same(at, self.refused_row(NoText, desk, f"{word} {text}").at)
            for word in ("function", "in"):
                for text, at in ((one + " 1", bound + 1), ("1", 1), ("none", 0), (" ".join(["0"] * 20), 20)):
                    self.same(at, self.refused_row(NoText, desk, f"{word} {text}").at)
            for text, at in (("0", 1), ("1 0", 2), (" ".join(["0"] * 20), 20)):
                self.same(at, self.refused_row(NoText, desk, f"poly {text}").at)

    def test_nothing_behind_the_blank(self):
        for word in ("function", "poly", "in"):
            self.same(0, self.refused_row(NoText, Desk(), word + " ").at)
            self.refused_row(NoRow, Desk(), word)


class TestUndo(DeskTests):

    def test_where_none_stands(self):
        desk = Desk()
        self.refused_row(NoRow, desk, "undo")
        self.refused_row(NoRow, desk, "undo")
        desk.say("bound 3")
        desk.say("undo")
        self.refused_row(NoRow, desk, "undo")
        self.kept(desk, 2, (0, 1))

    def test_all_down_to_none(self):
        desk = Desk()
        deeds = ["bound 5", "line 2 1", "again 3", "in 0 0 1 1 2", "poly 0 1 1", "function 1 2 3 4 0", "back", "again 1"]
        deeds += ["bound 16", "line 3 0", "back", "bound 4", "function 0 1 2 3", "bound 4"]
        seen = [all_answers(desk)]
        for row in deeds:
            self.same("ok", desk.say(row))
            seen.append(all_answers(desk))
        for due in seen[-2::-1]:
            self.same("ok", desk.say("undo"))
            self.same(due, all_answers(desk))
        self.refused_row(NoRow, desk, "undo")

    def test_goes_past_questions_and_refused_rows(self):
        desk = Desk()
        desk.say("bound 3")
        desk.say("function 1 1 2")
        all_answers(desk)
        for row in ("back", "bound 1", "bound 17", "line 3 0", "function 1", "poly 0", "in", "at 3", "sum", None):
            with self.assertRaises(ValueError):
                desk.say(row)
        desk.say("undo")
        self.kept(desk, 3, (0, 1, 2))
        desk.say("undo")
        self.kept(desk, 2, (0, 1))

    def test_undo_itself_is_not_undone(self):
        desk = Desk()
        for row in ("bound 3", "line 2 0", "undo", "undo"):
            desk.say(row)
        self.kept(desk, 2, (0, 1))
        self.refused_row(NoRow, desk, "undo")

    def test_deeds_that_change_nothing_are_undone_too(self):
        desk = Desk()
        for row in ("line 0 1", "again 1", "bound 2", "function 0 1", "line 1 0", "back"):
            desk.say(row)
        for due in ((0, 1), (0, 1), (0, 1), (1, 1), (1, 1), (0, 1)):
            desk.say("undo")
            self.kept(desk, 2, due)
        self.refused_row(NoRow, desk, "undo")

    def test_new_deeds_behind_undo(self):
        desk = Desk()
        for row in ("bound 3", "line 2 0", "undo", "line 1 1", "again 2", "undo"):
            desk.say(row)
        self.kept(desk, 3, (1, 2, 0))
        desk.say("undo")
        self.kept(desk, 3, (0, 1, 2))

    def test_only_deeds_that_stand_count(self):
        rows = ["bound 5", "line 2 1", "back", "undo", "again 2", "in 0 0 1 1 2", "undo", "undo", "poly 1 1 1"]
        desk = Desk()
        for row in rows:
            desk.say(row)
            all_answers(desk)
        other = Desk()
        for row in ["bound 5", "line 2 1", "poly 1 1 1"]:
            other.say(row)
        self.same(all_answers(other), all_answers(desk))

    def test_two_desks(self):
        one, other = Desk(), Desk()
        one.say("bound 7")
        self.kept(other, 2, (0, 1))
        self.refused_row(NoRow, other, "undo")
        other.say("line 1 1")
        one.say("line 3 3")
        one.say("undo")
        self.kept(one, 7, identity(7))
        self.kept(other, 2, (1, 0))
        self.kept(Desk(), 2, (0, 1))


class TestQuestions(DeskTests):

    def look_at(self, bound, function):
        desk = desk_with(bound, function)
        once = len(set(function)) == bound
        pairs = [(a, b) for a in range(bound) for b in range(a + 1, bound) if function[a] == function[b]]
        self.same(text_due(function), desk.say("shown"))
        self.same(str(bound), desk.say("bound"))
        self.same("yes" if once else "no", desk.say("once"))
        self.same(text_due(pairs[0] if pairs else ()), desk.say("clash"))
        self.same(text_due([x for x in range(bound) if x not in function]), desk.say("missed"))
        self.same(text_due([x for x in range(bound) if x == function[x]]), desk.say("fixed"))
        self.same(course_due(function), desk.say("course"))
        lines = [(a, b) for a in range(bound) for b in range(bound)
                 if function == tuple((a * x + b) % bound for x in range(bound))]
        self.same(text_due(lines[0] if lines else ()), desk.say("line"))
        for k in range(bound):
            self.same(str(function[k]), desk.say(f"at {k}"))
        for k in (bound, bound + 1, 17, 99):
            self.refused_row(NoNumber, desk, f"at {k}")
        if once:
            self.same(rounds_due(function), desk.say("rounds"))
            self.same(course_due(function).split()[1], desk.say("order"))
        else:
            for row in ("rounds", "order", "number"):
                self.refused_row(Apart, desk, row)
        if bound in PRIMES:
            sums = [sum(worth ** t for worth in function) % bound for t in range(1, bound)]
            self.same(text_due(sums), desk.say("sums"))
        else:
            self.refused_row(NoPrime, desk, "sums")

    def test_each_bound(self):
        for bound in BOUNDS:
            for function in some_functions(bound):
                self.look_at(bound, function)

    def test_told(self):
        for prime in PRIMES:
            for poly in [poly for poly in some_polys(prime) if len(poly) <= prime]:
                self.same(text_due(poly), desk_with(prime, worths_due(prime, poly)).say("told"))
        for bound in BOUNDS:
            self.same("none", desk_with(bound, (0,) * bound).say("told"))
            self.same("0 1", desk_with(bound, identity(bound)).say("told"))
        for bound in NO_PRIMES:
            self.refused_row(Apart, desk_with(bound, (0,) * (bound - 1) + (1,)), "told")
        desk = desk_with(4, (0, 1, 0, 1))
        written = desk.say("told")
        desk.say("bound 4")
        desk.say(f"poly {written}")
        self.kept(desk, 4, (0, 1, 0, 1))

    def test_number(self):
        for number, function in enumerate(itertools.permutations(range(5))):
            self.same(str(number), desk_with(5, function).say("number"))
        for bound in BOUNDS:
            self.same(str(factorial(bound) - 1), desk_with(bound, identity(bound)[::-1]).say("number"))

    def test_known(self):
        desk = desk_with(5, (1, 0, 3, 4, 2))
        self.same("0 1; 2 3 4", desk.say("rounds"))
        self.same("6", desk.say("order"))
        self.same("0 6", desk.say("course"))
        self.same("none", desk.say("clash"))
        self.same("none", desk.say("missed"))
        self.same("none", desk.say("fixed"))
        self.same("none", desk.say("line"))
        self.same("0; 1; 2", desk_with(3, (0, 1, 2)).say("rounds"))
        self.same("0 2", desk_with(3, (2, 0, 2)).say("clash"))
        self.same("1 0", desk_with(16, identity(16)).say("line"))
        # More doings than 15 are written too.
        great = (1, 2, 3, 4, 0, 6, 7, 5, 9, 10, 11, 12, 13, 14, 8, 15)
        self.same("105", desk_with(16, great).say("order"))
        self.same("0 105", desk_with(16, great).say("course"))

    def test_they_change_nothing(self):
        for function in ((1, 0, 3, 4, 2), (1, 1, 3, 4, 2)):
            desk = desk_with(5, function)
            first = all_answers(desk)
            self.same(first, all_answers(desk))
            self.kept(desk, 5, function)
            desk.say("undo")
            self.kept(desk, 5, identity(5))


class TestNoRow(DeskTests):

    def test_no_text(self):
        for thing in [None, True, False, 0, 1, 10 ** 30, [], (), {}, ["shown"], ("shown",), {"shown": 1}, ["bound", "3"]]:
            kept = copy.deepcopy(thing)
            self.refused_row(NoRow, Desk(), thing)
            self.same(kept, thing)

    def test_other_words(self):
        rows = ["", "x", "none", "ok", "Shown", "SHOWN", "show", "showns", "functions 0 1", "functio 0 1", "Function 0 1"]
        rows += ["polys 1", "pol 1", "i 0 1", "inn 0 1", "lines", "lin 1 1", "agains 1", "backs", "undone", "ats 1", "0", "1"]
        rows += ["redo", "help", "is_once", "once?", "degree", "complete", "function\t0 1", "bound\t3", "shown\n", "\nshown"]
        for row in rows:
            self.refused_row(NoRow, desk_with(3, (1, 0, 2)), row)

    def test_another_number_of_words(self):
        desk = desk_with(3, (1, 0, 2))
        for word in PLAIN_QUESTIONS + ["back", "undo"]:
            self.refused_row(NoRow, desk, f"{word} x")
            if word != "bound":
                self.refused_row(NoRow, desk, f"{word} 2")
            self.refused_row(NoRow, desk, f"{word} {word}")
        for row in ("bound 3 3", "line 1", "line 1 1 1", "again", "again 1 1", "at", "at 1 1", "function", "poly", "in"):
            self.refused_row(NoRow, desk, row)
        for row in ("back 1", "undo 1", "line 1 1 1 1", "bound 3 x", "once 1 1 1"):
            self.refused_row(NoRow, desk, row)

    def test_blanks_too_many(self):
        desk = desk_with(3, (1, 0, 2))
        for row in PLAIN_QUESTIONS + ["back", "undo", "bound 3", "line 1 1", "again 1", "at 1"]:
            self.refused_row(NoRow, desk, " " + row)
            self.refused_row(NoRow, desk, row + " ")
            if " " in row:
                self.refused_row(NoRow, desk, row.replace(" ", "  ", 1))
        for row in (" ", "  ", " function 0 1 2", " poly 1", " in 0 1 2", "line 1  1", "bound ", "at ", "again ", "line "):
            self.refused_row(NoRow, desk, row)

    def test_words_that_write_no_number(self):
        desk = desk_with(3, (1, 0, 2))
        wrong = ["", "00", "01", "02", "003", "100", "102", "999", "1000", "1" * 31, "-1", "+1", "-0", "1.", "1.0", "x", "k"]
        wrong += ["none", "1x", "x1", "1_0", "0x1", "\u00b2", "\u0661", "\uff11", "\u0662", "1\n", "\t1", "True", "~"]
        for word in wrong:
            for row in (f"bound {word}", f"again {word}", f"at {word}", f"line {word} 1", f"line 1 {word}"):
                self.refused_row(NoRow, desk, row)

    def test_ahead_of_all_else(self):
        desk = desk_with(3, (1, 1, 2))
        # Each has something besides that another refusal would be due for.
        for row in ("line 9 x", "line x 9", "line 9 9 9", "line 9", "bound 1 1", "bound 17 x", "at 9 9", "at 009", "back 1"):
            self.refused_row(NoRow, desk, row)
        for row in ("rounds 1", "number x", "sums 4", "order ", "bound 017", "bound 117", "line 9 100", "line 100 9"):
            self.refused_row(NoRow, desk, row)

    def test_two_figures_are_taken(self):
        desk = desk_with(16, identity(16))
        self.same("10", desk.say("at 10"))
        self.same("15", desk.say("at 15"))
        self.same("0", desk.say("at 0"))
        self.same("ok", desk.say("line 15 10"))
        self.same("ok", desk.say("again 99"))
        self.same("ok", desk.say("again 0"))
        self.same("ok", desk.say("bound 16"))
