"""0.1 to 0.4, over the whole package: what holds of every function of it."""

import copy
import importlib
import inspect
import itertools
import pathlib
import subprocess
import sys

from onceeach import errors
from onceeach.desk import Desk
from onceeach.errors import NoBound, NoFunction, NoList, NoNumber, NoPoly, NoPower, NoPrime, NoRow, NoText, OnceError
from tests.common import Refusals

ROOT = pathlib.Path(__file__).resolve().parent.parent
# What may be handed in wherever a point says "whatever": none of these is taken for any argument of SAMPLES.
WHATEVER = [
    None, True, False, -1, 10 ** 30 + 1, -(10 ** 30), "", "~", "x y", [[]], [None, [1, [2]]], ({},), ([0], [1]),
    {}, {"a": [1]}, {0: (1, [2])}, ("clash",), (True, False), [True], [[1], (2,), {3: [4]}],
]
# Each function of the interface: its module, its name, and of each argument its name, a right thing for it, and the
# refusal of what is none, None where whatever is handed in is taken.
SAMPLES = [
    ("numbers", "rest", [("bound", 5, NoBound), ("number", 12, NoNumber)]),
    ("numbers", "raised", [("bound", 5, NoBound), ("number", 2, NoNumber), ("k", 7, NoNumber)]),
    ("numbers", "back_of", [("bound", 5, NoBound), ("number", 2, NoNumber)]),
    ("numbers", "units", [("bound", 5, NoBound)]),
    ("functions", "is_function", [("bound", 3, NoBound), ("thing", (0, 1, 1), None)]),
    ("functions", "put_in", [("bound", 3, NoBound), ("one", (1, 1, 2), NoFunction), ("other", (2, 0, 1), NoFunction)]),
    ("functions", "again", [("bound", 3, NoBound), ("function", (1, 2, 0), NoFunction), ("k", 2, NoNumber)]),
    ("functions", "is_once", [("bound", 3, NoBound), ("function", (1, 2, 0), NoFunction)]),
    ("functions", "first_clash", [("bound", 3, NoBound), ("function", (1, 1, 0), NoFunction)]),
    ("functions", "missed", [("bound", 3, NoBound), ("function", (1, 1, 0), NoFunction)]),
    ("functions", "turned_back", [("bound", 3, NoBound), ("function", (1, 2, 0), NoFunction)]),
    ("polys", "is_poly", [("bound", 3, NoBound), ("thing", (0, 1, 1), None)]),
    ("polys", "poly_of", [("bound", 3, NoBound), ("things", [4, -1, 3], NoPoly)]),
    ("polys", "worth_at", [("bound", 3, NoBound), ("poly", (1, 1), NoPoly), ("number", 2, NoNumber)]),
    ("polys", "worths", [("bound", 3, NoBound), ("poly", (1, 1), NoPoly)]),
    ("sums", "plus", [("bound", 3, NoBound), ("one", (1, 1), NoPoly), ("other", (2, 1), NoPoly)]),
    ("sums", "times", [("bound", 3, NoBound), ("one", (1, 1), NoPoly), ("other", (2, 1), NoPoly)]),
    ("sums", "within", [("bound", 3, NoBound), ("one", (1, 0, 1), NoPoly), ("other", (2, 1), NoPoly)]),
    ("sums", "slope", [("bound", 3, NoBound), ("poly", (1, 1, 1), NoPoly)]),
    ("sums", "shared", [("bound", 3, NoBound), ("one", (1, 0, 1), NoPoly), ("other", (2, 1), NoPoly)]),
    ("steps", "steps_of", [("bound", 3, NoBound), ("function", (1, 1, 0), NoFunction)]),
    ("steps", "is_told", [("bound", 4, NoBound), ("function", (1, 1, 0, 0), NoFunction)]),
    ("steps", "falls_of", [("bound", 3, NoBound), ("function", (1, 1, 0), NoFunction)]),
    ("steps", "poly_by", [("bound", 3, NoBound), ("function", (1, 1, 0), NoFunction)]),
    ("untold", "untold_holds", [("bound", 4, NoBound), ("function", (0, 0, 0, 1), NoFunction), ("thing", ("step", 3), None)]),
    ("untold", "why_untold", [("bound", 4, NoBound), ("function", (0, 0, 0, 1), NoFunction)]),
    ("untold", "told_many", [("bound", 4, NoBound)]),
    ("bysums", "power_sums", [("prime", 3, NoBound), ("function", (1, 1, 0), NoFunction)]),
    ("bysums", "by_sums", [("prime", 3, NoBound), ("function", (1, 2, 0), NoFunction)]),
    ("bysums", "reduced", [("prime", 3, NoBound), ("poly", (0, 0, 0, 1), NoPoly)]),
    ("bysums", "top_of", [("prime", 3, NoBound), ("poly", (0, 0, 1), NoPoly), ("t", 1, NoNumber)]),
    ("clashes", "clash_holds", [("prime", 3, NoBound), ("function", (1, 1, 0), NoFunction), ("thing", ("sum", 1), None)]),
    ("clashes", "why_clash", [("prime", 3, NoBound), ("function", (1, 1, 0), NoFunction)]),
    ("rounds", "rounds_of", [("bound", 3, NoBound), ("function", (1, 0, 2), NoFunction)]),
    ("rounds", "order_of", [("bound", 3, NoBound), ("function", (1, 0, 2), NoFunction)]),
    ("rounds", "is_even", [("bound", 3, NoBound), ("function", (1, 0, 2), NoFunction)]),
    ("rounds", "fixed", [("bound", 3, NoBound), ("function", (1, 0, 2), NoFunction)]),
    ("rounds", "course", [("bound", 3, NoBound), ("function", (1, 1, 0), NoFunction)]),
    ("backs", "back_poly", [("bound", 3, NoBound), ("poly", (1, 2), NoPoly)]),
    ("backs", "done_poly", [("bound", 3, NoBound), ("poly", (1, 2), NoPoly), ("k", 3, NoNumber)]),
    ("lines", "line", [("bound", 3, NoBound), ("a", 2, NoNumber), ("b", 1, NoNumber)]),
    ("lines", "is_line", [("bound", 3, NoBound), ("function", (1, 0, 2), NoFunction)]),
    ("chains", "power_once", [("prime", 5, NoBound), ("k", 3, NoNumber)]),
    ("chains", "chain_poly", [("bound", 5, NoBound), ("k", 3, NoNumber), ("a", 2, NoNumber)]),
    ("chains", "chain_once", [("prime", 5, NoBound), ("k", 5, NoNumber), ("a", 2, NoNumber)]),
    ("likes", "alike_holds", [("bound", 3, NoBound), ("one", (0, 1, 1), NoFunction), ("other", (1, 2, 2), NoFunction),
                              ("thing", (1, 1, 0, 1), None)]),
    ("likes", "why_alike", [("bound", 3, NoBound), ("one", (0, 1, 1), NoFunction), ("other", (1, 2, 2), NoFunction)]),
    ("likes", "least_alike", [("bound", 3, NoBound), ("function", (1, 2, 2), NoFunction)]),
    ("counts", "once_many", [("bound", 3, NoBound)]),
    ("counts", "once_told_many", [("bound", 4, NoBound)]),
    ("counts", "nth_once", [("bound", 4, NoBound), ("number", 9, NoNumber)]),
    ("counts", "number_of", [("bound", 4, NoBound), ("function", (1, 3, 0, 2), NoFunction)]),
    ("degrees", "by_degree", [("prime", 5, NoBound)]),
    ("degrees", "first_of_degree", [("prime", 5, NoBound), ("d", 3, NoNumber)]),
    ("lifting", "base_of", [("power", 9, NoBound)]),
    ("lifting", "once_on", [("power", 9, NoBound), ("poly", (1, 1, 3), NoPoly)]),
    ("lifting", "stuck_holds", [("power", 9, NoBound), ("poly", (0, 0, 1), NoPoly), ("thing", ("slope", 0), None)]),
    ("lifting", "why_stuck", [("power", 9, NoBound), ("poly", (0, 0, 1), NoPoly)]),
    ("lifting", "lifts", [("power", 9, NoBound), ("poly", (0, 0, 1), NoPoly), ("c", 7, NoNumber), ("x", 1, NoNumber)]),
    ("parts", "parts_of", [("bound", 12, NoBound)]),
    ("parts", "part_of", [("bound", 6, NoBound), ("function", (0, 1, 2, 3, 4, 5), NoFunction), ("part", 3, NoNumber)]),
    ("parts", "sewn", [("bound", 6, NoBound), ("things", [(1, 0), (0, 2, 1)], NoList)]),
    ("several", "reached", [("bound", 3, NoBound), ("functions", [(1, 2, 0), (0, 0, 1)], NoList)]),
    ("several", "way_to", [("bound", 3, NoBound), ("functions", [(1, 2, 0), (0, 0, 1)], NoList),
                           ("function", (1, 1, 1), NoFunction)]),
    ("several", "ring_holds", [("bound", 2, NoBound), ("functions", [(1, 0)], NoList), ("thing", ((0, 1), (1, 0)), None)]),
    ("several", "ring_of", [("bound", 3, NoBound), ("functions", [(1, 2, 0), (0, 0, 1)], NoList)]),
    ("complete", "is_complete", [("bound", 3, NoBound), ("function", (1, 2, 0), NoFunction)]),
    ("complete", "complete_from", [("bound", 5, NoBound), ("ahead", (1, 3), NoFunction)]),
    ("complete", "complete_many", [("bound", 5, NoBound)]),
    ("texts", "shown", [("thing", (1, 15), NoFunction)]),
    ("texts", "function_read", [("bound", 3, NoBound), ("text", "1 1 0", NoText)]),
    ("texts", "poly_read", [("bound", 3, NoBound), ("text", "1 1", NoText)]),
]
# Bounds that one stage or another does not take, with the refusal that is due ahead of all but NoBound.
OTHER_BOUNDS = [
    (("bysums", "clashes", "chains.power_once", "chains.chain_once", "degrees"), NoPrime, (4, 6, 16)),
    (("lifting",), NoPower, (2, 3, 5, 6, 12, 15)),
]


def call_of(module, name):
    return getattr(importlib.import_module(f"onceeach.{module}"), name)


def asked_of(module, name, things):
    """The answer, or the refusal's class and fields."""
    try:
        return call_of(module, name)(*things)
    except OnceError as why:
        return (type(why), sorted(vars(why).items()))


def rights(arguments):
    return [copy.deepcopy(right) for name, right, error in arguments]


class TestInterface(Refusals):

    def test_names_of_arguments(self):
        for module, name, arguments in SAMPLES:
            self.takes(call_of(module, name), *[argument[0] for argument in arguments])

    def test_no_argument_may_be_left_out(self):
        for module, name, arguments in SAMPLES:
            for parameter in inspect.signature(call_of(module, name)).parameters.values():
                self.assertIs(inspect.Parameter.empty, parameter.default, (module, name))

    def test_by_names_as_by_places(self):
        for module, name, arguments in SAMPLES:
            named = {argument[0]: argument[1] for argument in reversed(arguments)}
            self.same(call_of(module, name)(*rights(arguments)), call_of(module, name)(**named))

    def test_each_refusal_is_of_its_own_class(self):
        for name in ("NoBound NoPrime NoPower NoNumber NoFunction NoPoly Apart NoRow NoList NoText TooGreat".split()):
            self.assertEqual((OnceError,), getattr(errors, name).__bases__)
        self.assertEqual((ValueError,), OnceError.__bases__)

    def test_each_module_alone(self):
        # No module needs another one to have been imported ahead of it, and none prints or reads anything.
        names = sorted({module for module, name, arguments in SAMPLES}) + ["desk", "errors"]
        for module in names:
            done = subprocess.run(
                [sys.executable, "-B", "-c", f"import onceeach.{module}"], cwd=ROOT, capture_output=True, text=True,
            )
            self.assertEqual((0, "", ""), (done.returncode, done.stdout, done.stderr), module)


class TestRefused(Refusals):

    def test_whatever_is_handed_in_for_one(self):
        for module, name, arguments in SAMPLES:
            for at, (argument, right, error) in enumerate(arguments):
                for wrong in WHATEVER:
                    # Any whole number has a rest.
                    if name == "rest" and argument == "number" and isinstance(wrong, int) and not isinstance(wrong, bool):
                        continue
                    things = rights(arguments)
                    things[at] = copy.deepcopy(wrong)
                    if error is None:
                        self.same(False, call_of(module, name)(*things))
                    else:
                        self.refused(error, call_of(module, name), *things)
                    self.same(wrong, things[at])

    def test_of_two_the_one_further_to_the_left(self):
        for module, name, arguments in SAMPLES:
            for one, other in itertools.combinations(range(len(arguments)), 2):
                if arguments[one][2] is None:
                    continue
                for wrong in (None, True, {"a": [1]}, "x y", [[1], (2,), {3: [4]}]):
                    things = rights(arguments)
                    things[one] = copy.deepcopy(wrong)
                    things[other] = copy.deepcopy(wrong)
                    self.refused(arguments[one][2], call_of(module, name), *things)

    def test_other_bounds_ahead_of_the_rest(self):
        for homes, error, bounds in OTHER_BOUNDS:
            found = [s for s in SAMPLES if s[0] in homes or f"{s[0]}.{s[1]}" in homes]
            self.assertTrue(found)
            for module, name, arguments in found:
                for bound in bounds:
                    self.refused(error, call_of(module, name), bound, *rights(arguments)[1:])
                    self.refused(error, call_of(module, name), bound, *[None] * (len(arguments) - 1))

    def test_too_great_ahead_of_the_rest(self):
        mosts = {"why_alike": 8, "least_alike": 8, "once_told_many": 9, "reached": 5, "way_to": 5, "ring_holds": 5}
        mosts.update({"ring_of": 5, "complete_from": 7, "complete_many": 7})
        for module, name, arguments in SAMPLES:
            if name in mosts:
                for bound in range(mosts[name] + 1, 17):
                    for behind in (rights(arguments)[1:], [None] * (len(arguments) - 1)):
                        why = self.refused(errors.TooGreat, call_of(module, name), bound, *behind)
                        self.same((bound, mosts[name]), (why.many, why.most))

    def test_no_other_bound_is_too_great(self):
        # All others take each bound up to 16, or each prime up to 13: they refuse what stands behind it.
        takes_small = "why_alike least_alike once_told_many reached way_to ring_holds ring_of complete_from complete_many "
        takes_small += "by_degree first_of_degree"
        for module, name, arguments in SAMPLES:
            behind = [error for argument, right, error in arguments[1:]]
            if name not in takes_small.split() and behind and behind[0] is not None:
                bound = 13 if arguments[0][0] == "prime" else 16
                self.refused(behind[0], call_of(module, name), bound, *[None] * len(behind))


class TestNothingIsChanged(Refusals):

    def test_what_is_handed_in_stays(self):
        for module, name, arguments in SAMPLES:
            things = rights(arguments)
            asked_of(module, name, things)
            self.same(rights(arguments), things)

    def test_same_answer_again(self):
        first = [asked_of(module, name, rights(arguments)) for module, name, arguments in SAMPLES]
        kept = copy.deepcopy(first)
        desk = Desk()
        desk.say("bound 7")
        for module, name, arguments in SAMPLES:
            for at in range(len(arguments)):
                things = rights(arguments)
                things[at] = None
                asked_of(module, name, things)
        behind = [asked_of(module, name, rights(arguments)) for module, name, arguments in SAMPLES[::-1]]
        self.same(kept, behind[::-1])
        self.same(kept, first)

    def test_lists_told_are_the_askers_own(self):
        found = []
        for module, name, arguments in SAMPLES:
            told = asked_of(module, name, rights(arguments))
            if isinstance(told, list):
                found.append(name)
                kept = copy.deepcopy(told)
                told.append("mine")
                told[0] = "mine too"
                self.same(kept, asked_of(module, name, rights(arguments)))
        self.same(["units", "rounds_of", "by_degree", "parts_of"], found)

    def test_lists_handed_in_are_not_kept(self):
        for module, name, arguments in SAMPLES:
            things = rights(arguments)
            told = asked_of(module, name, things)
            kept = copy.deepcopy(told)
            for thing in things:
                if isinstance(thing, list):
                    thing.clear()
            self.same(kept, told)
            self.same(kept, asked_of(module, name, rights(arguments)))

    def test_what_is_told_may_be_handed_in_again(self):
        function = call_of("counts", "nth_once")(5, 77)
        poly = call_of("steps", "poly_by")(5, function)
        self.same(function, call_of("polys", "worths")(5, poly))
        self.same(function, call_of("texts", "function_read")(5, call_of("texts", "shown")(function)))
        ring = call_of("several", "ring_of")(5, [function])
        self.same(True, call_of("several", "ring_holds")(5, [function], ring))
        self.same(True, call_of("several", "ring_holds")(5, list(ring[:3]), ring))
        told = call_of("counts", "number_of")(5, call_of("functions", "turned_back")(5, function))
        self.same(call_of("functions", "turned_back")(5, function), call_of("counts", "nth_once")(5, told))
        parts = [call_of("parts", "part_of")(12, (3,) * 12, part) for part in call_of("parts", "parts_of")(12)]
        self.same((3,) * 12, call_of("parts", "sewn")(12, parts))

    def test_desk_too(self):
        desk = Desk()
        for wrong in WHATEVER:
            kept = copy.deepcopy(wrong)
            self.refused(NoRow, desk.say, wrong)
            self.same(kept, wrong)
        self.same("0 1", desk.say("shown"))
