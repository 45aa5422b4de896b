"""8.4: the parts of a bound, functions by them, and functions sewn of these."""

import copy
import itertools

from onceeach.errors import Apart, NoBound, NoFunction, NoList, NoNumber
from onceeach.functions import is_function, is_once
from onceeach.parts import part_of, parts_of, sewn
from tests.common import (
    BOUNDS, NO_BOUNDS, NO_WHOLE_NUMBERS, Refusals, all_functions, identity, no_functions, some_functions, some_polys,
    with_at, worths_due,
)

PARTS = {
    2: [2], 3: [3], 4: [4], 5: [5], 6: [2, 3], 7: [7], 8: [8], 9: [9], 10: [2, 5], 11: [11], 12: [4, 3], 13: [13],
    14: [2, 7], 15: [3, 5], 16: [16],
}


def part_due(bound, function, part):
    """The function by the part, None where there is none."""
    rests = [{function[x] % part for x in range(r, bound, part)} for r in range(part)]
    return tuple(sum(found) for found in rests) if all(len(found) == 1 for found in rests) else None


def rows_of_functions(bound, step):
    """Some lists of functions by the parts of a bound."""
    choices = [some_functions(part)[at::step] for at, part in enumerate(PARTS[bound])]
    return [list(row) for row in itertools.product(*choices)]


class TestPartsOf(Refusals):

    def test_arguments(self):
        self.takes(parts_of, "bound")
        self.same([2, 3], parts_of(bound=6))

    def test_each_bound(self):
        for bound in BOUNDS:
            self.same(PARTS[bound], parts_of(bound))

    def test_list_is_the_askers_own(self):
        for bound in BOUNDS:
            first = parts_of(bound)
            first.append(7)
            first[0] = 99
            self.same(PARTS[bound], parts_of(bound))

    def test_no_bound(self):
        for wrong in NO_BOUNDS:
            self.refused(NoBound, parts_of, wrong)


class TestPartOf(Refusals):

    def test_arguments(self):
        self.takes(part_of, "bound", "function", "part")
        self.same((0, 1, 2), part_of(part=3, function=(0, 1, 2, 3, 4, 5), bound=6))

    def look_at(self, bound, function, part):
        due = part_due(bound, function, part)
        if due is None:
            self.refused(Apart, part_of, bound, function, part)
        else:
            self.same(due, part_of(bound, function, part))
            self.same(True, is_function(part, due))
        return due is None

    def test_of_polynomials(self):
        for bound in BOUNDS:
            for poly in some_polys(bound):
                for part in PARTS[bound]:
                    self.same(worths_due(part, poly), part_of(bound, worths_due(bound, poly), part))

    def test_of_others(self):
        for bound in BOUNDS:
            looks = [self.look_at(bound, f, part) for f in some_functions(bound) for part in PARTS[bound]]
            self.assertIn(False, looks)
            self.same(len(PARTS[bound]) > 1, True in looks)

    def test_all_by_six(self):
        for function in all_functions(6)[::7]:
            for part in (2, 3):
                self.look_at(6, function, part)

    def test_one_part_there_and_the_other_not(self):
        # Worths that are all even, one of them 2 and not 0: by 2 there is a part, by 3 there is none.
        self.same((0, 0), part_of(6, (0, 0, 0, 0, 0, 2), 2))
        self.refused(Apart, part_of, 6, (0, 0, 0, 0, 0, 2), 3)
        self.same((0, 0, 0), part_of(6, (0, 0, 0, 0, 0, 3), 3))
        self.refused(Apart, part_of, 6, (0, 0, 0, 0, 0, 3), 2)

    def test_part_that_is_the_bound(self):
        for bound in (2, 3, 4, 5, 7, 8, 9, 11, 13, 16):
            for function in some_functions(bound):
                self.same(function, part_of(bound, function, bound))

    def test_no_part(self):
        for bound in BOUNDS:
            for wrong in [0, 1, -1, 17, 10 ** 30] + list(range(2, 17)) + [-part for part in PARTS[bound]]:
                if wrong not in PARTS[bound]:
                    self.refused(NoNumber, part_of, bound, identity(bound), wrong)
            for wrong in NO_WHOLE_NUMBERS + [[2], (2,), "2", "3", [[2, 3]], {2: 3}]:
                self.refused(NoNumber, part_of, bound, identity(bound), wrong)

    def test_numbers_that_go_into_it_but_are_no_part(self):
        self.refused(NoNumber, part_of, 12, identity(12), 2)
        self.refused(NoNumber, part_of, 12, identity(12), 6)
        self.refused(NoNumber, part_of, 12, identity(12), 12)
        self.refused(NoNumber, part_of, 16, identity(16), 4)

    def test_no_number_ahead_of_apart(self):
        self.refused(NoNumber, part_of, 12, with_at((0,) * 12, 5, 1), 2)

    def test_refused_from_the_left(self):
        for wrong in NO_BOUNDS:
            self.refused(NoBound, part_of, wrong, (0, 1), 2)
            self.refused(NoBound, part_of, wrong, None, None)
        for bound in (2, 6, 16):
            for wrong in no_functions(bound):
                self.refused(NoFunction, part_of, bound, wrong, PARTS[bound][0])
                self.refused(NoFunction, part_of, bound, wrong, 0)
                self.refused(NoFunction, part_of, bound, wrong, None)


class TestSewn(Refusals):

    def test_arguments(self):
        self.takes(sewn, "bound", "things")
        self.same((0, 1, 2, 3, 4, 5), sewn(things=[(0, 1), (0, 1, 2)], bound=6))

    def test_each_bound(self):
        for bound in BOUNDS:
            for things in rows_of_functions(bound, 3):
                told = sewn(bound, things)
                self.same(True, is_function(bound, told))
                self.same(things, [part_due(bound, told, part) for part in PARTS[bound]])
                self.same(things, [part_of(bound, told, part) for part in PARTS[bound]])
                self.same(all(len(set(f)) == len(f) for f in things), is_once(bound, told))

    def test_other_way_about(self):
        for bound in BOUNDS:
            for poly in some_polys(bound)[::3]:
                function = worths_due(bound, poly)
                self.same(function, sewn(bound, [part_of(bound, function, part) for part in PARTS[bound]]))

    def test_all_by_six(self):
        told = [sewn(6, [one, other]) for one in all_functions(2) for other in all_functions(3)]
        self.same(4 * 27, len(set(told)))
        self.same(12, sum(len(set(function)) == 6 for function in told))

    def test_bounds_of_one_part(self):
        for bound in (2, 3, 4, 5, 7, 8, 9, 11, 13, 16):
            for function in some_functions(bound):
                self.same(function, sewn(bound, [function]))

    def test_known(self):
        self.same((3, 2, 1, 0, 5, 4), sewn(6, [(1, 0), (0, 2, 1)]))
        self.same((4,) * 12, sewn(12, [(0,) * 4, (1,) * 3]))

    def test_no_list_of_as_many(self):
        for bound in BOUNDS:
            right = [identity(part) for part in PARTS[bound]]
            for wrong in [tuple(right), [], right[:-1], right + [identity(2)], right * 2, [right], right[0]]:
                if not (isinstance(wrong, list) and len(wrong) == len(right)):
                    self.same(-1, self.refused(NoList, sewn, bound, wrong).at)
            for wrong in [None, True, False, 0, 1, -1, bound, "", "0 1", (), {}, {0: (0, 1)}, (0, 1), ((0, 1), (0, 1, 2))]:
                self.same(-1, self.refused(NoList, sewn, bound, wrong).at)

    def test_no_function_at_a_place(self):
        for bound in BOUNDS:
            parts = PARTS[bound]
            right = [identity(part) for part in parts]
            for at, part in enumerate(parts):
                for wrong in no_functions(part) + [identity(part + 1), identity(part)[:-1]]:
                    things = list(right)
                    things[at] = wrong
                    self.same(at, self.refused(NoList, sewn, bound, things).at)

    def test_first_place_is_told(self):
        for bound in (6, 10, 12, 14, 15):
            for wrong in (None, (), [0, 1], "0 1", identity(16), True):
                self.same(0, self.refused(NoList, sewn, bound, [wrong, wrong]).at)
                self.same(0, self.refused(NoList, sewn, bound, [wrong, identity(PARTS[bound][1])]).at)
        # Each is a function by the other's part.
        self.same(0, self.refused(NoList, sewn, 6, [(0, 1, 2), (0, 1)]).at)
        self.same(0, self.refused(NoList, sewn, 12, [(0, 1, 2), (0, 1, 2, 3)]).at)

    def test_no_bound_first(self):
        for wrong in NO_BOUNDS:
            self.refused(NoBound, sewn, wrong, [(0, 1)])
            self.refused(NoBound, sewn, wrong, None)

    def test_what_is_handed_in_stays(self):
        for bound, things in [(6, [(0, 1), (2, 2, 2)]), (6, [(0, 1), [2, 2, 2]]), (6, [[(0, 1)]]), (4, [(3, 2, 1, 0)])]:
            kept = copy.deepcopy(things)
            try:
                sewn(bound, things)
            except NoList:
                pass
            self.same(kept, things)

    def test_later_changes_change_nothing(self):
        things = [(0, 1), (2, 2, 2)]
        told = sewn(6, things)
        kept = tuple(told)
        things[0] = (1, 1)
        things.append(0)
        self.same(kept, told)
        self.same(kept, sewn(6, [(0, 1), (2, 2, 2)]))
