"""9.1 and 9.2: what several functions make, done one behind the other, and rings of functions."""

import copy
import itertools

from onceeach.errors import NoBound, NoFunction, NoList, TooGreat
from onceeach.several import reached, ring_holds, ring_of, way_to
from tests.common import NO_BOUNDS, Refusals, all_functions, identity, no_functions, some_functions, with_at

BOUNDS_TAKEN = (2, 3, 4, 5)
CALLS = ((reached, ()), (way_to, ((0, 1),)), (ring_holds, (((0, 1),),)), (ring_of, ()))
NO_LISTS = [
    None, True, False, 0, 1, -1, 2, 10 ** 30, "", "0 1", "none", (), {}, [], (0, 1), ((0, 1),), ((0, 1), (1, 0)),
    {0: (0, 1)}, {(0, 1): (1, 0)}, [(0, 1)] * 4, [(0, 1)] * 5, [None] * 4,
]


def turn(bound):
    return identity(bound)[1:] + (0,)


def swap(bound):
    return (1, 0) + identity(bound)[2:]


def drop(bound):
    return (0, 0) + identity(bound)[2:]


def along(functions, way):
    """What the functions make, done along a way."""
    made = identity(len(functions[0]))
    for place in way:
        made = tuple(functions[place][worth] for worth in made)
    return made


def made_by_all(functions):
    """All that ways make, found by joining what is there until nothing new comes."""
    found = set(functions)
    while True:
        more = {tuple(g[worth] for worth in f) for f in found for g in functions} - found
        if not more:
            return found
        found |= more


def first_ways(functions, longest):
    """The first way to each function, going through all ways by their lengths, and then as tuples rise."""
    found = {}
    for many in range(1, longest + 1):
        for way in itertools.product(range(len(functions)), repeat=many):
            found.setdefault(along(functions, way), way)
    return found


def some_lists(bound):
    """Lists of one, two and three functions by a bound."""
    some = [turn(bound), swap(bound), drop(bound), identity(bound), (0,) * bound, (bound - 1,) * bound]
    some += some_functions(bound)[7:25:4]
    found = [[function] for function in some]
    found += [[one, other] for one, other in itertools.product(some[::2], some[:4])]
    found += [[turn(bound), swap(bound), drop(bound)], [drop(bound), swap(bound), turn(bound)]]
    found += [[some[k], some[k + 3], some[k + 5]] for k in range(len(some) - 5)]
    return found


class TestReached(Refusals):

    def test_arguments(self):
        self.takes(reached, "bound", "functions")
        self.same(2, reached(functions=[(1, 0)], bound=2))

    def test_each_bound(self):
        for bound in BOUNDS_TAKEN:
            for functions in some_lists(bound):
                self.same(len(made_by_all(functions)), reached(bound, functions))

    def test_all_by_two(self):
        for many in (1, 2, 3):
            for functions in itertools.product(all_functions(2), repeat=many):
                self.same(len(made_by_all(functions)), reached(2, list(functions)))

    def test_known(self):
        for bound in BOUNDS_TAKEN:
            self.same(1, reached(bound, [identity(bound)]))
            self.same(1, reached(bound, [(0,) * bound]))
            self.same(bound, reached(bound, [turn(bound)]))
            self.same(bound ** bound, reached(bound, [turn(bound), swap(bound), drop(bound)]))
        self.same([2, 6, 24, 120], [reached(bound, [turn(bound), swap(bound)]) for bound in BOUNDS_TAKEN])

    def test_what_is_not_made_does_not_count(self):
        # Doing nothing at all is no way, so the function that leads each number to itself is not there of itself.
        self.same(1, reached(3, [(0, 0, 0)]))
        self.same(2, reached(3, [(0, 0, 1)]))


class TestWayTo(Refusals):

    def test_arguments(self):
        self.takes(way_to, "bound", "functions", "function")
        self.same((0, 0), way_to(function=(0, 1), functions=[(1, 0)], bound=2))

    def test_against_all_ways(self):
        for bound, longest in ((2, 5), (3, 6), (4, 6), (5, 6)):
            for functions in some_lists(bound)[::2]:
                for function, way in first_ways(functions, longest if len(functions) < 3 else longest - 1).items():
                    self.same(way, way_to(bound, functions, function))

    def test_all_by_two(self):
        for many in (1, 2, 3):
            for functions in itertools.product(all_functions(2), repeat=many):
                ways = first_ways(functions, 5)
                for function in all_functions(2):
                    self.same(ways.get(function), way_to(2, list(functions), function))

    def test_all_functions_by_three(self):
        for functions in some_lists(3):
            made = made_by_all(functions)
            for function in all_functions(3):
                way = way_to(3, functions, function)
                self.same(function in made, way is not None)
                if way is not None:
                    self.same(function, along(functions, way))

    def test_long_ways(self):
        for bound in (4, 5):
            functions = [turn(bound), swap(bound), drop(bound)]
            for function in all_functions(bound)[::97]:
                way = way_to(bound, functions, function)
                self.same(function, along(functions, way))

    def test_first_place_is_done_first(self):
        # Made by (1, 2, 0) and then (0, 0, 2), not the other way about.
        self.same((0, 1), way_to(3, [(1, 2, 0), (0, 0, 2)], (0, 2, 0)))
        self.same((1, 0), way_to(3, [(1, 2, 0), (0, 0, 2)], (1, 1, 0)))

    def test_one_function_twice(self):
        for bound in BOUNDS_TAKEN:
            self.same((0,), way_to(bound, [turn(bound), turn(bound)], turn(bound)))
            self.same((0,) * bound, way_to(bound, [turn(bound)] * 3, identity(bound)))
            self.same((1,), way_to(bound, [turn(bound), (0,) * bound, (0,) * bound], (0,) * bound))

    def test_leading_each_number_to_itself(self):
        for bound in BOUNDS_TAKEN:
            self.same((0,) * bound, way_to(bound, [turn(bound)], identity(bound)))
            self.same((0,), way_to(bound, [identity(bound)], identity(bound)))
            self.same((1,), way_to(bound, [turn(bound), identity(bound)], identity(bound)))
            self.same((0, 0), way_to(bound, [swap(bound), drop(bound)], identity(bound)))
            self.same(None, way_to(bound, [drop(bound)], identity(bound)))

    def test_shortest_ahead_of_least(self):
        # (0, 0, 0, 0) makes it too and is less than (1,), but longer.
        self.same((1,), way_to(5, [turn(5), (4, 0, 1, 2, 3)], (4, 0, 1, 2, 3)))

    def test_none(self):
        for bound in BOUNDS_TAKEN:
            self.same(None, way_to(bound, [turn(bound)], (0,) * bound))
            self.same(None, way_to(bound, [identity(bound)], turn(bound)))
            self.same(None, way_to(bound, [(0,) * bound, drop(bound)], identity(bound)))

    def test_no_function(self):
        for bound in BOUNDS_TAKEN:
            for wrong in no_functions(bound):
                self.refused(NoFunction, way_to, bound, [identity(bound)], wrong)

    def test_no_function_behind_no_list(self):
        self.same(-1, self.refused(NoList, way_to, 2, [], None).at)
        self.same(1, self.refused(NoList, way_to, 2, [(0, 1), None], None).at)


class TestRings(Refusals):

    def test_arguments(self):
        self.takes(ring_holds, "bound", "functions", "thing")
        self.takes(ring_of, "bound", "functions")
        self.same(True, ring_holds(thing=((0, 1), (1, 0)), functions=[(1, 0)], bound=2))
        self.same(((0, 1), (1, 0)), ring_of(functions=[(1, 0)], bound=2))

    def test_ring_of(self):
        for bound in BOUNDS_TAKEN:
            for functions in some_lists(bound):
                told = ring_of(bound, functions)
                self.same(tuple(sorted(made_by_all(functions))), told)
                self.same(True, ring_holds(bound, functions, told))

    def test_all_tuples_by_two(self):
        every = all_functions(2)
        for many in (1, 2):
            for functions in itertools.product(every, repeat=many):
                for size in range(5):
                    for ring in itertools.product(every, repeat=size):
                        due = list(ring) == sorted(set(ring)) and set(functions) <= set(ring)
                        due = due and all(tuple(g[w] for w in f) in ring for f in ring for g in functions)
                        self.same(due, ring_holds(2, list(functions), ring))

    def test_greater_rings(self):
        for bound in (2, 3, 4):
            every = tuple(all_functions(bound))
            for functions in some_lists(bound):
                self.same(True, ring_holds(bound, functions, every))
                # What a ring has besides leads on to something, too, and all of that is in it.
                for function in (turn(bound), drop(bound), (0,) * bound):
                    greater = {tuple(g[w] for w in function) for g in made_by_all(functions)} | {function}
                    greater |= made_by_all(functions)
                    self.same(True, ring_holds(bound, functions, tuple(sorted(greater))))
        self.same(True, ring_holds(5, [turn(5), drop(5)], tuple(all_functions(5))))

    def test_one_out(self):
        for bound in BOUNDS_TAKEN:
            for functions in some_lists(bound)[::3]:
                ring = tuple(sorted(made_by_all(functions)))
                for at in range(0, len(ring), len(ring) // 20 + 1):
                    self.same(False, ring_holds(bound, functions, ring[:at] + ring[at + 1:]))

    def test_one_of_the_list_out(self):
        # What is left leads to nothing outside of it, but the list's own function is not there.
        self.same(True, ring_holds(2, [(0, 0)], ((0, 0),)))
        self.same(False, ring_holds(2, [(0, 1), (0, 0)], ((0, 0),)))
        self.same(False, ring_holds(3, [(0, 0, 1)], ((0, 0, 0),)))
        self.same(True, ring_holds(3, [(0, 0, 1)], ((0, 0, 0), (0, 0, 1))))

    def test_one_in(self):
        # It stands in its place, but what it leads to does not.
        ring = ((0, 1, 2), (1, 2, 0), (2, 0, 1))
        self.same(True, ring_holds(3, [turn(3)], ring))
        self.same(False, ring_holds(3, [turn(3)], ((0, 0, 0),) + ring))
        self.same(False, ring_holds(3, [turn(3)], ring + ((2, 2, 2),)))
        self.same(True, ring_holds(3, [turn(3)], ((0, 0, 0),) + ring[:1] + ((1, 1, 1),) + ring[1:] + ((2, 2, 2),)))

    def test_what_is_done_first(self):
        # Each of it and then the list's one is in it; the list's one and then each of it is not.
        ring = ((0, 0, 0), (0, 0, 1), (1, 0, 0))
        functions = [(0, 0, 1)]
        self.same(True, ring_holds(3, functions, ring))
        self.same(False, tuple(ring[2][w] for w in functions[0]) in ring)

    def test_not_rising(self):
        for bound in BOUNDS_TAKEN:
            ring = tuple(sorted(made_by_all([turn(bound)])))
            self.same(True, ring_holds(bound, [turn(bound)], ring))
            self.same(False, ring_holds(bound, [turn(bound)], ring[::-1]))
            self.same(False, ring_holds(bound, [turn(bound)], ring + ring[-1:]))
            self.same(False, ring_holds(bound, [turn(bound)], ring[:1] + ring))
            self.same(False, ring_holds(bound, [turn(bound)], ring[1:] + ring[:1]))
            self.same(False, ring_holds(bound, [turn(bound)], list(ring)))

    def test_no_function_in_it(self):
        for bound in BOUNDS_TAKEN:
            ring = tuple(sorted(made_by_all([turn(bound)])))
            for wrong in no_functions(bound):
                for at in (0, len(ring) - 1):
                    self.same(False, ring_holds(bound, [turn(bound)], with_at(ring, at, wrong)))
                self.same(False, ring_holds(bound, [turn(bound)], ring + (wrong,)))

    def test_whatever_is_handed_in(self):
        things = NO_LISTS + [[(0, 0)], ([0, 0],), {(0, 0): True}, "0 0", ((0, 0), None), (((0, 0),),), [[(0, 0)]]]
        things += [((False, False),), ((0, False),), ((0, 0), (0, 0)), ((0, 0), (0, 2)), ((0, 0), (0, 0, 0)), ((),), (0, 0)]
        things += [(None,), (True,), ({},), ([],), ("",), ((0, 0), "0 1"), ((0, "0"),), ((10 ** 30, 0),)]
        for thing in things:
            kept = copy.deepcopy(thing)
            self.same(False, ring_holds(2, [(0, 0)], thing))
            self.same(kept, thing)
        self.same(True, ring_holds(2, [(0, 0)], ((0, 0),)))


class TestRefusedOfAll(Refusals):

    def test_no_bound_first(self):
        for call, behind in CALLS:
            for wrong in NO_BOUNDS:
                self.refused(NoBound, call, wrong, [(0, 1)], *behind)
                self.refused(NoBound, call, wrong, None, *behind)

    def test_too_great_ahead_of_no_list(self):
        for call, behind in CALLS:
            for bound in range(6, 17):
                for functions in ([identity(bound)], [], None, [None]):
                    why = self.refused(TooGreat, call, bound, functions, *behind)
                    self.same((bound, 5), (why.many, why.most))

    def test_no_list(self):
        for call, behind in CALLS:
            for wrong in NO_LISTS:
                self.same(-1, self.refused(NoList, call, 2, wrong, *behind).at)

    def test_no_function_in_the_list(self):
        for call, behind in CALLS:
            for bound in BOUNDS_TAKEN:
                for wrong in no_functions(bound):
                    for many in (1, 2, 3):
                        for at in range(many):
                            functions = [turn(bound)] * many
                            functions[at] = wrong
                            self.same(at, self.refused(NoList, call, bound, functions, *behind).at)

    def test_first_place_is_told(self):
        for call, behind in CALLS:
            self.same(0, self.refused(NoList, call, 2, [None, None, None], *behind).at)
            self.same(1, self.refused(NoList, call, 2, [(0, 1), (0, 2), None], *behind).at)
            self.same(0, self.refused(NoList, call, 2, [[0, 1], (0, 1), []], *behind).at)

    def test_what_is_handed_in_stays(self):
        for call, behind in CALLS:
            for functions in ([(1, 0), (0, 0)], [(1, 0), [0, 0]], [[[1]]], [], [(0, 1)] * 4):
                kept = copy.deepcopy(functions)
                try:
                    call(2, functions, *behind)
                except NoList:
                    pass
                self.same(kept, functions)

    def test_same_answer_again(self):
        asked = [(call, functions) for call in (reached, ring_of) for functions in some_lists(3)]
        first = [call(3, functions) for call, functions in asked]
        self.same(first[::-1], [call(3, functions) for call, functions in asked[::-1]])
