"""What the document says of all functions at once: their names and arguments, things handed in, and told lists."""

import copy
import inspect
import unittest
from importlib import import_module

from likehands.desk import Desk
from likehands.errors import HandsError
from likehands.patterns import machine_of
from helping import Unfriendly

# The names of the interface, with their arguments in order.
INTERFACE = {
    "machines": {"is_machine": "thing", "has": "machine word", "both": "one other", "either": "one other",
                 "without": "one other", "turned": "machine", "least": "machine", "least_word": "machine",
                 "how_many": "machine length", "words_of": "machine length"},
    "patterns": {"machine_of": "letters pattern"},
    "worlds": {"is_world": "thing", "show_world": "world", "read_world": "text"},
    "steps": {"after": "letters shape rule word", "steps_of": "world word"},
    "runs": {"come": "world number", "least_run": "world number", "first_broken": "world greatest"},
    "images": {"image": "machine shape rule", "before": "machine shape rule"},
    "keeping": {"looked_at": "world machine", "safe_for": "world steps"},
    "views": {"views_of": "machine size", "view_machine": "letters views size"},
    "closedviews": {"closed_views": "world size", "are_closed_views": "world views size"},
    "windows": {"windows_of": "machine size", "window_machine": "letters windows size"},
    "closedwindows": {"closed_windows": "world size", "are_closed_windows": "world windows size"},
    "judge": {"judged": "world greatest"},
    "stuck": {"stuck_machine": "world", "least_stuck": "world machine", "stuck_run": "world number"},
    "counts": {"most_of": "machine letter", "least_of": "machine letter", "with_both": "machine one other"},
    "changes": {"mirrored": "world", "renamed": "world names", "coarser": "world names", "lacking": "world numbers"},
    "stories": {"show_story": "world run", "read_story": "world text", "places_of": "world number word other"},
}

DOOR = ("io", "row", (("one", "o", "i", ("all", "left", "o")), ("one", "i", "o", None)), "o+", ".*i.*i.*")
KEPT = ("io", "ring", (("one", "o", "i", ("all", "others", "o")), ("one", "i", "o", None)), "o+", ".*i.*i.*")
DOWN = ("io", "row", (("one", "i", "o", ("some", "others", "i")),), "i+", "oo+")
STEP = DOOR[2][0]
EVEN = ("io", ((1, 0), (0, 1)), (0,))
LAST = machine_of("io", ".*i")

# For each name one or more calls, with some of the lists that can be handed in.
CALLS = {
    "is_machine": [(EVEN,), ([1],)],
    "has": [(EVEN, "ioi"), (EVEN, "i")],
    "both": [(EVEN, LAST)], "either": [(EVEN, LAST)], "without": [(EVEN, LAST), (EVEN, EVEN)],
    "turned": [(EVEN,)], "least": [(EVEN,)], "least_word": [(LAST,)],
    "how_many": [(EVEN, 3)], "words_of": [(EVEN, 3), (EVEN, 0), (machine_of("io", "i"), 3)],
    "machine_of": [("io", "o*i|[io]+")],
    "is_world": [(DOOR,), ([DOOR],)],
    "show_world": [(DOOR,)],
    "read_world": [("letters a\nrow\nbegin a\nbad a\n",)],
    "after": [("io", "row", STEP, "oo"), ("io", "row", STEP, "ii"), ("io", "ring", ("two", "o", "i", "i", "o"), "oi")],
    "steps_of": [(DOOR, "oi"), (DOWN, "oo")],
    "come": [(DOOR, 2), (KEPT, 3)],
    "least_run": [(DOOR, 3), (KEPT, 3)],
    "first_broken": [(DOOR, 3), (KEPT, 3)],
    "image": [(EVEN, "row", STEP)], "before": [(EVEN, "row", STEP)],
    "looked_at": [(DOOR, EVEN), (KEPT, machine_of("io", "o*|o*io*")), (DOOR, machine_of("io", "o+"))],
    "safe_for": [(DOOR, 1)],
    "views_of": [(EVEN, 2), (machine_of("io", "i"), 1)],
    "view_machine": [("io", ["", "o", "i", "oi", "o"], 2), ("io", [], 1)],
    "closed_views": [(KEPT, 2), (DOOR, 1)],
    "are_closed_views": [(KEPT, ["", "o", "i", "oi", "oo", "io"], 2), (KEPT, [], 2)],
    "windows_of": [(EVEN, 2), (machine_of("io", "i"), 3)],
    "window_machine": [("io", ["^o", "oo", "o$", "oo"], 2), ("io", [], 1)],
    "closed_windows": [(KEPT, 2), (DOOR, 1)],
    "are_closed_windows": [(KEPT, ["o", "i"], 1), (KEPT, [], 2)],
    "judged": [(DOOR, 3), (KEPT, 3), (DOOR, 1)],
    "stuck_machine": [(DOWN,)],
    "least_stuck": [(DOWN, EVEN), (DOOR, EVEN)],
    "stuck_run": [(DOWN, 3), (DOOR, 3)],
    "most_of": [(EVEN, "i"), (machine_of("io", "ii"), "i")], "least_of": [(LAST, "i")],
    "with_both": [(EVEN, "i", "o")],
    "mirrored": [(DOOR,)], "renamed": [(DOOR, "xa")], "coarser": [(DOOR, "xx")],
    "lacking": [(DOOR, [1, 0]), (DOOR, []), (DOOR, [0])],
    "show_story": [(DOOR, ["oo", "io"]), (DOOR, ["o"])],
    "read_story": [(DOOR, "oo\n0 io\n")],
    "places_of": [(DOOR, 0, "ooo", "oio"), (DOOR, 0, "ooo", "ooo")],
}


def function_of(name):
    for module, names in INTERFACE.items():
        if name in names:
            return getattr(import_module("likehands." + module), name)
    raise KeyError(name)


def lists_in(thing):
    """All lists that are in a thing, at any depth."""
    if isinstance(thing, (list, tuple)):
        found = [thing] if isinstance(thing, list) else []
        for part in thing:
            found += lists_in(part)
        return found
    return []


def all_calls():
    for name, calls in CALLS.items():
        for arguments in calls:
            yield name, function_of(name), arguments


class Whole(unittest.TestCase):
    def test_names_and_arguments(self):
        for module, names in INTERFACE.items():
            for name, arguments in names.items():
                told = inspect.signature(getattr(import_module("likehands." + module), name))
                self.assertEqual(list(told.parameters), arguments.split(), name)
        self.assertEqual(list(inspect.signature(Desk).parameters), [])
        self.assertEqual(list(inspect.signature(Desk.say).parameters), ["self", "row"])
        self.assertEqual(sorted(CALLS), sorted(name for names in INTERFACE.values() for name in names))

    def test_nothing_handed_in_is_changed(self):
        for name, function, arguments in all_calls():
            handed = copy.deepcopy(arguments)
            function(*handed)
            self.assertEqual(handed, arguments, name)
            self.assertEqual(repr(handed), repr(arguments), name)

    def test_the_same_is_told_again(self):
        for name, function, arguments in all_calls():
            self.assertEqual(repr(function(*copy.deepcopy(arguments))), repr(function(*copy.deepcopy(arguments))), name)

    def test_every_told_list_is_the_askers_own(self):
        for name, function, arguments in all_calls():
            handed = copy.deepcopy(arguments)
            first, second = function(*handed), function(*handed)
            kept = repr(first)
            owned = lists_in(first) + lists_in(second) + lists_in(handed)
            self.assertEqual(len({id(found) for found in owned}), len(owned), name)
            for found in lists_in(first):
                found.append("no")
                found.reverse()
            self.assertEqual(repr(second), kept, name)
            self.assertEqual(repr(function(*handed)), kept, name)
            for found in lists_in(second):
                found.clear()
            self.assertEqual(repr(function(*handed)), kept, name)

    def test_what_becomes_of_a_list_that_was_handed_in(self):
        for name, function, arguments in all_calls():
            handed = copy.deepcopy(arguments)
            told = function(*handed)
            kept = repr(told)
            for found in lists_in(handed):
                found.clear()
            self.assertEqual(repr(told), kept, name)
            self.assertEqual(repr(function(*copy.deepcopy(arguments))), kept, name)

    def test_told_lists_there_are(self):
        # So that the tests above do not pass for want of lists.
        telling = {name for name, function, arguments in all_calls() if lists_in(function(*copy.deepcopy(arguments)))}
        self.assertEqual(telling, {"words_of", "after", "steps_of", "come", "least_run", "first_broken", "views_of",
                                   "closed_views", "windows_of", "closed_windows", "judged", "stuck_run", "read_story",
                                   "places_of"})

    def test_answers_do_not_hang_on_what_was_asked_ahead(self):
        calls = list(all_calls())
        forth = [repr(function(*copy.deepcopy(arguments))) for name, function, arguments in calls]
        back = [repr(function(*copy.deepcopy(arguments))) for name, function, arguments in calls[::-1]]
        self.assertEqual(forth, back[::-1])

    def test_refusals_of_anything(self):
        # Of things that can't even be compared or counted, too.
        for name, arguments in (("machine_of", ("ab", Unfriendly())), ("renamed", (DOOR, Unfriendly())),
                                ("coarser", (DOOR, Unfriendly()))):
            with self.assertRaises(HandsError):
                function_of(name)(*arguments)
        self.assertIs(function_of("is_machine")(Unfriendly()), False)
        self.assertIs(function_of("is_world")(Unfriendly()), False)
        with self.assertRaises(HandsError):
            Desk().say(Unfriendly())


if __name__ == "__main__":
    unittest.main()
