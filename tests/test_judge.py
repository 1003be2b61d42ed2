import unittest
from collections import Counter
from random import Random

from likehands.closedviews import closed_views
from likehands.closedwindows import closed_windows
from likehands.judge import judged
from likehands.keeping import looked_at, safe_for
from likehands.machines import both, has, is_machine, turned
from likehands.patterns import machine_of
from likehands.views import view_machine
from likehands.windows import window_machine
from helping import (HANDS, SHAPES, all_come, any_goal, any_rule, check_least, is_of, kinds_of, least_list)

LETTERS = ("a", "ab", "abc", "bdxz")
DOOR = ("io", "row", (("one", "o", "i", None), ("one", "i", "o", None)), "o+", ".*i.*i.*")
KEPT_DOOR = DOOR[:2] + ((("one", "o", "i", ("all", "others", "o")), DOOR[2][1]),) + DOOR[3:]
TOKEN = ("nt", "ring", (("two", "t", "n", "n", "t"),), "tn*", ".*t.*t.*")

# Caches that share a line: at most one may have it for itself (e), and only alone; others share it (s) or not (n).
CACHES = ("ens", "row", (("call", "n", "s", "sns"), ("call", "s", "e", "nnn"), ("call", "n", "e", "nnn")), "n+",
          ".*e.*[es].*")

# Worlds for which the machine of each place of the list, and none ahead of it, is kept; of these places the first one
# of windows of size 1 can't be told, as closed views of size 1 tell just the same.
PLACED = (
    (0, ("ab", "row", (), "a", "b")),
    (0, ("abc", "ring", (("one", "a", "b", None), ("one", "b", "a", None)), "a+", ".*c.*")),
    (1, KEPT_DOOR),
    (1, TOKEN),
    (1, CACHES),
    (3, ("ab", "row", (), "b.", "a")),
    (3, ("abc", "row", (("two", "a", "b", "b", "a"),), "c[ab]+", "[ab].*")),
    # Here, as below with size 3, the words that are closed views', too, would be fewer.
    (3, ("ab", "ring", (("one", "a", "b", None),), "b.b", "a+")),
    (4, ("a", "row", (), ".a", "a")),
    (4, ("ab", "ring", (("two", "a", "b", "b", "a"),), ".bb", ".")),
    (4, ("abc", "row", (("two", "a", "b", "b", "a"),), "cc[ab]+", "c[ab].*")),
    (5, ("abc", "row", (("two", "b", "a", "a", "b"),), "ca*ba*", ".*b.*b.*|b.*")),
    (6, ("abc", "row", (("two", "b", "a", "a", "b"),), "cca*ba*", ".*b.*b.*|cb.*")),
    (6, ("ab", "ring", (("two", "a", "b", "b", "a"),), "[a][a].", "[b]+")),
    (7, ("a", "row", (), "a.+[a]", ".a")),
    (8, ("abc", "ring", (("two", "a", "b", "c", "a"),), "[abc]+[b]", ".c")),
    (9, ("ab", "ring", (("call", "a", "a", "ba"),), "a+b", "b.b+")),
    (10, ("ab", "row", (("one", "b", "b", None), ("call", "b", "b", "ba")), "b+", "[a][b][ab][ab]+b")),
)


def machines_in_order(world):
    """The machines of point 37, in the order in which they are named there."""
    letters = world[0]
    views = [view_machine(letters, closed_views(world, size), size) for size in (1, 2)]
    windows = [window_machine(letters, closed_windows(world, size), size) for size in (1, 2, 3)]
    mixed = [both(views[1], windows[1]), both(views[1], windows[2])]
    return views + windows + mixed + [safe_for(world, steps) for steps in (0, 1, 2, 3)]


def breaks_first(world, greatest):
    """What breaks for at most so many hands, by words gone through; or None."""
    for number in range(1, greatest + 1):
        run = least_list(world, number, lambda word: is_of(world[4], word))
        if run is not None:
            return "breaks", number, run
    return None


def any_worlds_to_judge(seed, many_worlds):
    """Worlds with few rules, so that not nearly all of them break."""
    chance = Random(seed)
    for turn in range(many_worlds):
        letters = LETTERS[turn % 4]
        shape = chance.choice(SHAPES)
        rules = tuple(any_rule(chance, letters, chance.choice(kinds_of(shape))) for _ in range(chance.randrange(4)))
        begin = any_goal(chance, letters, chance.choice((1, 2, 3)))
        yield letters, shape, rules, begin, any_goal(chance, letters, chance.choice((2, 4, 5)))


class Breaks(unittest.TestCase):
    def test_worked_by_hand(self):
        self.assertEqual(judged(DOOR, 2), ("breaks", 2, ["oo", "io", "ii"]))
        self.assertEqual(judged(DOOR, 8), ("breaks", 2, ["oo", "io", "ii"]))
        self.assertEqual(judged(("ab", "row", (), ".", "a"), 1), ("breaks", 1, ["a"]))
        world = ("abt", "ring", (("two", "t", "a", "b", "t"),), "ta*", "bbb*t")
        self.assertEqual(judged(world, 5), ("breaks", 3, ["taa", "bta", "bbt"]))

    def test_just_reached_and_just_not(self):
        self.assertEqual(judged(DOOR, 1), ("open",))
        for many in (2, 3, 4):
            # So many hands are let in, and one more is bad.
            guard = ("some", "others", "o")
            world = ("io", "row", (("one", "o", "i", guard),), "o" * many + "+", ".*" + "i" * (many - 1) + ".*")
            told = judged(world, many)
            self.assertEqual(told[:2], ("breaks", many))
            self.assertEqual(told, breaks_first(world, many))
            self.assertNotEqual(judged(world, many - 1)[0], "breaks")
            self.assertEqual(judged(world, many + 1), told)

    def test_greatest_one(self):
        self.assertEqual(judged(("ab", "row", (("one", "a", "b", None),), "a+", "b"), 1), ("breaks", 1, ["a", "b"]))
        self.assertEqual(judged(("ab", "row", (("one", "a", "b", None),), "a+", "bb"), 1), ("open",))
        self.assertEqual(judged(KEPT_DOOR, 1)[0], "never")

    def test_it_goes_ahead_of_all_else(self):
        for world in any_worlds_to_judge(201, 150):
            for greatest in (1, 3):
                meant = breaks_first(world, greatest)
                told = judged(world, greatest)
                if meant is None:
                    self.assertNotEqual(told[0], "breaks")
                else:
                    self.assertEqual(told, meant, world)
                    self.assertIs(type(told), tuple)
                    self.assertIs(type(told[1]), int)
                    self.assertIs(type(told[2]), list)


class Never(unittest.TestCase):
    def test_each_of_the_lists_and_steps(self):
        for place, world in PLACED:
            machines = machines_in_order(world)
            kept = [at for at, machine in enumerate(machines) if looked_at(world, machine) == ("kept",)]
            self.assertEqual(kept[0], place, world)
            for greatest in (1, 2, 4):
                told = judged(world, greatest)
                self.assertIs(type(told), tuple)
                self.assertEqual(told, ("never", machines[place]), world)

    def test_machines_worked_by_hand(self):
        for world, machine in (
            (("ab", "row", (), "a", "b"), machine_of("ab", "a*")),
            (KEPT_DOOR, machine_of("io", "o*|o*io*")),
            (TOKEN, machine_of("nt", "n*|n*tn*")),
            (("ab", "row", (), "b.", "a"), machine_of("ab", "b+|b+a")),
            (("a", "row", (), ".a", "a"), machine_of("a", "aa")),
            (("abc", "row", (), "ca*ba*", ".*b.*b.*|b.*"), machine_of("abc", "ca+|ca*ba*")),
            (("a", "row", (), "a.+[a]", ".a"), turned(machine_of("a", "aa"))),
        ):
            self.assertEqual(judged(world, 3), ("never", machine), world)
            check_least(self, machine)

    def test_worlds_by_chance(self):
        answers = Counter()
        for world in any_worlds_to_judge(202, 400):
            told = judged(world, 3)
            if told[0] == "breaks":
                answers["breaks"] += 1
                continue
            machines = machines_in_order(world)
            kept = [at for at, machine in enumerate(machines) if looked_at(world, machine) == ("kept",)]
            answers[kept[0] if kept else "open"] += 1
            self.assertEqual(told, ("never", machines[kept[0]]) if kept else ("open",), world)
        for answer in ("breaks", 0, 1, 3, 4):
            self.assertGreater(answers[answer], 5, answers)

    def test_it_is_never_told_where_some_number_breaks(self):
        nevers = 0
        for world in any_worlds_to_judge(203, 400):
            told = judged(world, 1)
            number = min(6, HANDS[len(world[0])])
            if told[0] != "never":
                continue
            nevers += 1
            self.assertIsNone(breaks_first(world, number), world)
            self.assertIs(is_machine(told[1]), True)
            check_least(self, told[1])
            for many in range(1, number):
                for word in all_come(world, many):
                    self.assertIs(has(told[1], word), True)
                    self.assertFalse(is_of(world[4], word))
        self.assertGreater(nevers, 60)

    def test_many_rules(self):
        rules = tuple(("one", x, y, ("all", "others", "abc")) for x, y in ("ab", "bc", "ca", "cd", "dc", "da", "ba", "ac"))
        told = judged(("abcd", "row", rules, "a+", ".*d.*d.*"), 4)
        self.assertEqual(told[0], "never")
        self.assertEqual(looked_at(("abcd", "row", rules, "a+", ".*d.*d.*"), told[1]), ("kept",))


class Open(unittest.TestCase):
    def test_worked_by_hand(self):
        # Nothing bad comes for two hands or fewer, and for three it does.
        world = ("ab", "row", (("one", "a", "b", None),), "a+", "bbb+")
        self.assertEqual(judged(world, 2), ("open",))
        self.assertEqual(judged(world, 3), ("breaks", 3, ["aaa", "aab", "abb", "bbb"]))

    def test_what_none_of_these_machines_knows(self):
        # The number of hands that are in stays even, which no view, window or few steps tell.
        rules = (("two", "o", "o", "i", "i"), ("two", "i", "i", "o", "o"), ("two", "i", "o", "o", "i"),
                 ("two", "o", "i", "i", "o"))
        world = ("io", "row", rules, "o+", "o*io*")
        self.assertEqual(judged(world, 6), ("open",))
        self.assertIsNone(breaks_first(world, 8))

    def test_no_more_than_three_steps(self):
        world = ("ab", "ring", (("call", "a", "a", "ba"),), "[a]+", "a+[b][a]+b[a]+")
        self.assertEqual(looked_at(world, safe_for(world, 4)), ("kept",))
        self.assertEqual(judged(world, 6), ("open",))


class AskedAgain(unittest.TestCase):
    def test_the_same_answer(self):
        for world in any_worlds_to_judge(204, 60):
            self.assertEqual(judged(world, 2), judged(world, 2))

    def test_each_list_is_the_askers_own(self):
        first = judged(DOOR, 3)
        second = judged(DOOR, 3)
        self.assertIsNot(first[2], second[2])
        first[2].clear()
        second[2].append("no")
        self.assertEqual(judged(DOOR, 3), ("breaks", 2, ["oo", "io", "ii"]))


if __name__ == "__main__":
    unittest.main()
