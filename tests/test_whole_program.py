"""What the document promises over the whole program: names and arguments, NoWeb, and lists that are not kept."""

import inspect
import unittest
from copy import deepcopy
from importlib import import_module

from dyeweb.arrows import flattest, goes_round, ranks, setting_of
from dyeweb.counts import from_spring, pairs, settings, unbroken
from dyeweb.dyes import fewest, is_dyeing, least
from dyeweb.errors import NoWeb, WebError
from dyeweb.notes import read, shown
from dyeweb.rows import row, worth
from dyeweb.webs import beside, cut, is_web, merged, pieces

from sample_webs import GREAT_WEBS, NO_WEBS

INTERFACE = {
    "webs": {
        "is_web": "points ties", "cut": "points ties tie", "merged": "points ties tie", "pieces": "points ties",
        "beside": "points ties more others",
    },
    "rows": {"row": "points ties", "worth": "numbers q"},
    "dyes": {"is_dyeing": "points ties dyes many", "fewest": "points ties", "least": "points ties many"},
    "arrows": {
        "goes_round": "points ties arrows", "ranks": "points ties arrows", "setting_of": "points ties dyes",
        "flattest": "points ties",
    },
    "counts": {
        "settings": "points ties", "from_spring": "points ties point", "pairs": "points ties q",
        "unbroken": "points ties many",
    },
    "notes": {"shown": "points ties", "read": "text"},
}

# What is handed in behind points and ties: right for some webs, for others due to another refusal.
BEHIND = {
    cut: [((0, 1),), ((1, 0),), ((5, 6),), ((-100, 100),)],
    merged: [((0, 1),), ((1, 0),), ((5, 6),), ((-100, 100),)],
    pieces: [()],
    beside: [(0, []), (2, [(0, 1)]), (2, [(1, 0)]), (-1, [])],
    row: [()],
    is_dyeing: [([], 0), ([0, 1, 2], 3), ([0, 0, 0], 3), ([-1, 9], 2), ([0] * 9, 7)],
    fewest: [()],
    least: [(0,), (1,), (3,), (7,)],
    goes_round: [([],), ([True],), ([True, False, True],), ([True] * 13,), ([False] * 30,)],
    ranks: [([],), ([True],), ([True, False, True],), ([True] * 13,), ([False] * 30,)],
    setting_of: [([],), ([0, 0, 0],), ([0, 1, 2],), ([100] * 7,), (list(range(7)),)],
    flattest: [()],
    settings: [()],
    from_spring: [(-1,), (0,), (1,), (7,), (100,)],
    pairs: [(0,), (1,), (20,)],
    unbroken: [(0,), (1,), (7,), (8,), (20,)],
    shown: [()],
}

TRIANGLE = [(0, 1), (0, 2), (1, 2)]
CALLS = [
    (is_web, 3, TRIANGLE),
    (cut, 3, TRIANGLE, (0, 2)),
    (merged, 3, TRIANGLE, (0, 2)),
    (pieces, 5, TRIANGLE),
    (pieces, 0, []),
    (beside, 3, TRIANGLE, 2, [(0, 1)]),
    (beside, 3, TRIANGLE, 0, []),
    (beside, 0, [], 3, TRIANGLE),
    (row, 3, TRIANGLE),
    (row, 0, []),
    (worth, [0, 2, -3, 1], 3),
    (is_dyeing, 3, TRIANGLE, [0, 1, 2], 3),
    (fewest, 3, TRIANGLE),
    (least, 3, TRIANGLE, 3),
    (least, 3, TRIANGLE, 2),
    (least, 0, [], 0),
    (goes_round, 3, TRIANGLE, [True, False, True]),
    (ranks, 3, TRIANGLE, [True, True, False]),
    (ranks, 0, [], []),
    (setting_of, 3, TRIANGLE, [0, 5, 2]),
    (setting_of, 0, [], []),
    (flattest, 3, TRIANGLE),
    (flattest, 0, []),
    (settings, 3, TRIANGLE),
    (from_spring, 3, TRIANGLE, 1),
    (pairs, 3, TRIANGLE, 2),
    (unbroken, 3, TRIANGLE, 2),
    (shown, 3, TRIANGLE),
    (read, "3: 0-1 0-2 1-2"),
    (read, "0:"),
] + [(act, points, ties) for act in (pieces, row, fewest, flattest, settings, shown) for points, ties in GREAT_WEBS]


def lists_within(value):
    if isinstance(value, list):
        return [value] + [found for part in value for found in lists_within(part)]
    if isinstance(value, tuple):
        return [found for part in value for found in lists_within(part)]
    return []


class TestTheInterface(unittest.TestCase):
    def test_names_and_arguments(self):
        for file, functions in INTERFACE.items():
            module = import_module("dyeweb." + file)
            for name, wanted in functions.items():
                parameters = inspect.signature(getattr(module, name)).parameters
                self.assertEqual(" ".join(parameters), wanted, name)
                for parameter in parameters.values():
                    self.assertIs(parameter.default, inspect.Parameter.empty, name)

    def test_arguments_by_their_names(self):
        for act, *handed in CALLS:
            named = dict(zip(inspect.signature(act).parameters, deepcopy(handed), strict=True))
            self.assertEqual(act(**named), act(*deepcopy(handed)))

    def test_every_function_is_among_the_calls(self):
        called = {call[0].__name__ for call in CALLS}
        self.assertEqual(called, {name for functions in INTERFACE.values() for name in functions})


class TestNoWebComesFirst(unittest.TestCase):
    def test_every_function_that_refuses_with_it(self):
        for act, rests in BEHIND.items():
            for points, ties in NO_WEBS:
                for rest in rests:
                    handed = deepcopy((points, ties) + rest)
                    with self.assertRaises(NoWeb, msg=(act, handed)) as caught:
                        act(*handed)
                    self.assertIs(type(caught.exception), NoWeb)
                    self.assertEqual(handed, (points, ties) + rest)

    def test_all_functions_of_the_interface_but_three(self):
        others = {"is_web", "worth", "read"}
        self.assertEqual(
            {act.__name__ for act in BEHIND} | others,
            {name for functions in INTERFACE.values() for name in functions},
        )

    def test_the_second_web_of_beside(self):
        for points, ties in NO_WEBS:
            with self.assertRaises(NoWeb):
                beside(0, [], points, ties)


class TestNothingIsChangedOrKept(unittest.TestCase):
    def test_what_is_handed_in_stays(self):
        for act, *handed in CALLS:
            lent = deepcopy(handed)
            act(*lent)
            self.assertEqual(lent, handed, act)

    def test_what_is_handed_in_may_be_changed_later(self):
        for act, *handed in CALLS:
            wanted = deepcopy(act(*deepcopy(handed)))
            lent = deepcopy(handed)
            told = act(*lent)
            for given in lists_within(lent):
                given.clear()
            self.assertEqual(told, wanted, act)
            self.assertEqual(act(*deepcopy(handed)), wanted, act)

    def test_what_is_told_may_be_changed(self):
        for act, *handed in CALLS:
            lent = deepcopy(handed)
            told = act(*lent)
            wanted = deepcopy(told)
            for given in lists_within(told):
                given.append("changed")
            self.assertEqual(lent, handed, act)
            self.assertEqual(act(*lent), wanted, act)

    def test_no_two_lists_are_one(self):
        for act, *handed in CALLS:
            lent = deepcopy(handed)
            every = lists_within(lent) + lists_within(act(*lent)) + lists_within(act(*lent))
            self.assertEqual(len({id(one) for one in every}), len(every), act)

    def test_a_refusal_leaves_no_trace(self):
        for act, *handed in CALLS:
            wanted = act(*deepcopy(handed))
            for other, rests in BEHIND.items():
                for rest in rests:
                    with self.assertRaises(WebError):
                        other(3, [(0, 2), (0, 1)], *deepcopy(rest))
            self.assertEqual(act(*deepcopy(handed)), wanted, act)


if __name__ == "__main__":
    unittest.main()
