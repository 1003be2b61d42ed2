import unittest
from random import Random

from likehands.closedwindows import are_closed_windows, closed_windows
from likehands.images import image
from likehands.keeping import looked_at
from likehands.machines import has
from likehands.patterns import machine_of
from likehands.windows import window_machine, windows_of
from helping import (ALL_LETTERS, HANDS, SHAPES, all_come, all_stepped, all_windows, any_goal, any_rule, any_word,
                     any_world, any_worlds, framed, is_of, kinds_of, words_up_to)

SIZES = (1, 2, 3)
TOKEN = ("nt", "ring", (("two", "t", "n", "n", "t"),), "tn*", ".*t.*t.*")
PUSH = ("ab", "row", (("two", "a", "b", "b", "a"),), "a+b", "a")


class GoneByWords:
    """The steps of all words of a world up to a length, by which a list of windows is judged.

    Of a step to a word with a window only the places of that window count,
    those that are changed, and one that a guard wants; between these it is
    enough that the windows go on, and few letters let them do so soon.
    """

    def __init__(self, world, size):
        length = {1: 8, 2: 8, 3: 5}[len(world[0])] if size < 3 else {1: 10, 2: 10}[len(world[0])]
        self.windows = {word: framed(word, size) for word in words_up_to(world[0], length)}
        self.later = {word: all_stepped(world, word) for word in self.windows}
        self.begin = set().union(*[self.windows[word] for word in self.windows if is_of(world[3], word)])

    def made(self, known):
        """The windows of what comes of the words all of whose windows are known."""
        words = [word for word in self.windows if self.windows[word] <= known]
        return set().union(*[self.windows[other] for word in words for other in self.later[word]])


class GoneByMachines:
    """The same by whole machines, where words would be too many."""

    def __init__(self, world, size):
        self.world = world
        self.size = size
        self.begin = set(windows_of(machine_of(world[0], world[3]), size))

    def made(self, known):
        letters, shape, rules, begin, bad = self.world
        machine = window_machine(letters, sorted(known), self.size)
        return set().union(*[windows_of(image(machine, shape, rule), self.size) for rule in rules])


def is_closed(gone, known):
    return gone.begin <= known and gone.made(known) <= known


def least_closed(gone):
    known = gone.begin
    while not is_closed(gone, known):
        known = known | gone.made(known)
    return sorted(known)


class WorkedByHand(unittest.TestCase):
    def test_least_lists(self):
        for world, size, windows in (
            (TOKEN, 1, ["n", "t"]),
            (TOKEN, 2, ["^n", "^t", "n$", "nn", "nt", "t$", "tn", "tt"]),
            (PUSH, 1, ["a", "b"]),
            (PUSH, 2, ["^a", "^b", "a$", "aa", "ab", "b$", "ba", "bb"]),
            # Of size 3 it is known that no word ends with two of b.
            (PUSH, 3, ["^^a", "^^b", "^aa", "^ab", "^ba", "^bb", "a$$", "aa$", "aaa", "aab", "ab$", "aba", "abb", "b$$",
                       "ba$", "baa", "bab", "bba", "bbb"]),
            (("ab", "row", (), "ab", "a"), 1, ["a", "b"]),
            (("ab", "row", (), "ab", "a"), 2, ["^a", "ab", "b$"]),
            (("ab", "row", (), "ab", "a"), 3, ["^^a", "^ab", "ab$", "b$$"]),
            (("ab", "row", (("two", "a", "b", "b", "a"),), "ab", "a"), 2,
             ["^a", "^b", "a$", "aa", "ab", "b$", "ba", "bb"]),
            (("ab", "row", (("two", "b", "a", "a", "b"),), "ab", "a"), 2, ["^a", "ab", "b$"]),
            (("ab", "ring", (("two", "b", "a", "a", "b"),), "ab", "a"), 3,
             ["^^a", "^^b", "^ab", "^ba", "a$$", "ab$", "b$$", "ba$"]),
            (("abc", "row", (("call", "a", "c", "bbb"),), "aa", "b"), 1, ["a", "b", "c"]),
            (("abc", "row", (("call", "a", "c", "bbb"),), "aa", "b"), 3,
             ["^^a", "^^b", "^^c", "^aa", "^bc", "^cb", "a$$", "aa$", "b$$", "bc$", "c$$", "cb$"]),
            (("ab", "row", (("one", "a", "b", ("all", "left", "b")),), "aa", "b"), 2,
             ["^a", "^b", "a$", "aa", "b$", "ba", "bb"]),
            (("ab", "row", (("one", "a", "b", ("some", "right", "b")),), "aa", "b"), 3, ["^^a", "^aa", "a$$", "aa$"]),
            (("a", "ring", (("one", "a", "a", None),), "a", "a"), 3, ["^^a", "^a$", "a$$"]),
        ):
            told = closed_windows(world, size)
            self.assertIs(type(told), list)
            self.assertEqual(told, windows, (world, size))
            self.assertIs(are_closed_windows(world, windows, size), True)

    def test_lists_that_are_none(self):
        self.assertIs(are_closed_windows(PUSH, [], 1), False)
        self.assertIs(are_closed_windows(PUSH, [], 2), False)
        self.assertIs(are_closed_windows(PUSH, ["a"], 1), False)
        # Here begin's windows are all there, but a step leads out.
        self.assertIs(are_closed_windows(PUSH, ["^a", "aa", "ab", "b$"], 2), False)
        # Here no step leads out, but begin has other windows.
        self.assertIs(are_closed_windows(("ab", "row", (), "ab", "a"), ["^a", "a$", "^b", "b$"], 2), False)
        self.assertIs(are_closed_windows(("ab", "row", (), "ab", "a"), ["^a", "ab", "b$"], 2), True)
        self.assertIs(are_closed_windows(("ab", "row", (), "ab", "a"), ["^a", "ab"], 2), False)

    def test_lists_with_more(self):
        world = ("abc", "row", (("one", "b", "c", None),), "a+", "c")
        self.assertEqual(closed_windows(world, 2), ["^a", "a$", "aa"])
        self.assertIs(are_closed_windows(world, ["^a", "a$", "aa", "ab", "b$"], 2), False)
        self.assertIs(are_closed_windows(world, ["^a", "a$", "aa", "ab", "b$", "ac", "c$"], 2), True)
        # A window behind which none goes on is one of no word of the machine, so nothing comes of it.
        self.assertIs(are_closed_windows(world, ["^a", "a$", "aa", "ab"], 2), True)
        self.assertIs(are_closed_windows(world, ["$^", "^a", "a$", "aa", "b^", "^^"], 2), True)
        self.assertIs(are_closed_windows(world, ["a", "b"], 1), False)
        self.assertIs(are_closed_windows(world, ["a", "c"], 1), True)


class GoneThrough(unittest.TestCase):
    def check(self, chance, world, size, gone):
        told = closed_windows(world, size)
        self.assertIs(type(told), list)
        self.assertEqual(told, least_closed(gone), (world, size))
        self.judged(world, size, told, True)
        # The list lacks what the beginning or a rule brings, so no closed list is without one of these.
        for at in range(len(told)):
            self.judged(world, size, told[:at] + told[at + 1:], False)
        every = all_windows(world[0], size)
        self.judged(world, size, every, True)
        answers = []
        for turn in range(3):
            # With the windows of one more word, so that steps of others may come.
            more = told + sorted(framed(any_word(chance, world[0], 3), size))
            more += [window for window in every if window not in told and chance.randrange(8) == 0]
            chance.shuffle(more)
            answers.append(is_closed(gone, set(more)))
            self.judged(world, size, more, answers[-1])
            self.judged(world, size, more + more[::-1], answers[-1])
            some = [window for window in every if chance.randrange(8) > 0]
            self.judged(world, size, some, is_closed(gone, set(some)))
        return answers

    def judged(self, world, size, windows, meant):
        kept = list(windows)
        self.assertIs(are_closed_windows(world, windows, size), meant, (world, windows, size))
        self.assertEqual(windows, kept)

    def test_each_kind_of_rule_by_words(self):
        chance = Random(191)
        for letters in ("a", "ab", "abc"):
            for shape in SHAPES:
                for kind in kinds_of(shape):
                    rule = any_rule(chance, letters, kind)
                    world = (letters, shape, (rule,), any_goal(chance, letters, 2), letters[0])
                    for size in (1, 2) if len(letters) < 3 else (1,):
                        self.check(chance, world, size, GoneByWords(world, size))

    def test_size_three_by_words(self):
        chance = Random(192)
        for letters in ("a", "ab"):
            for shape in SHAPES:
                for kind in kinds_of(shape):
                    rule = any_rule(chance, letters, kind)
                    world = (letters, shape, (rule,), any_goal(chance, letters, 2), letters[0])
                    told = closed_windows(world, 3)
                    self.assertEqual(told, least_closed(GoneByWords(world, 3)), world)

    def test_each_kind_of_rule_by_machines(self):
        chance = Random(193)
        answers = []
        for letters in ALL_LETTERS:
            for shape in SHAPES:
                for kind in 2 * kinds_of(shape):
                    rule = any_rule(chance, letters, kind)
                    world = (letters, shape, (rule,), any_goal(chance, letters, 2), letters[0])
                    for size in SIZES:
                        self.assertEqual(closed_windows(world, size), least_closed(GoneByMachines(world, size)))
                    if len(letters) < 4:
                        answers += self.check(chance, world, 2, GoneByMachines(world, 2))
        self.assertGreater(answers.count(True), 20)
        self.assertGreater(answers.count(False), 10)

    def test_no_rules(self):
        chance = Random(194)
        for letters in ALL_LETTERS:
            for shape in SHAPES:
                world = any_world(chance, letters, shape, 0)
                for size in SIZES:
                    self.assertEqual(closed_windows(world, size), windows_of(machine_of(letters, world[3]), size))

    def test_worlds_by_chance(self):
        chance = Random(195)
        for world in any_worlds(195, 25, 8):
            for size in SIZES:
                gone = GoneByMachines(world, size)
                if size * len(world[0]) <= 6:
                    self.check(chance, world, size, gone)
                else:
                    self.assertEqual(closed_windows(world, size), least_closed(gone))

    def test_every_closed_list_has_all_of_the_least_one(self):
        chance = Random(196)
        for turn in range(40):
            world = any_world(chance, "ab", SHAPES[turn % 2], 2)
            least = set(closed_windows(world, 2))
            every = all_windows("ab", 2)
            for other in range(60):
                some = [window for window in every if chance.randrange(6) > 0]
                if are_closed_windows(world, some, 2):
                    self.assertLessEqual(least, set(some))
                if not least <= set(some):
                    self.assertIs(are_closed_windows(world, some, 2), False)

    def test_all_words_that_come_are_in_its_machine(self):
        for world in any_worlds(197, 60, 8):
            for size in SIZES:
                machine = window_machine(world[0], closed_windows(world, size), size)
                self.assertIn(looked_at(world, machine)[0], ("bad", "kept"))
                for number in range(1, min(5, HANDS[len(world[0])]) + 1):
                    for word in all_come(world, number):
                        self.assertIs(has(machine, word), True, (world, size, word))

    def test_each_list_is_the_askers_own(self):
        first = closed_windows(PUSH, 2)
        second = closed_windows(PUSH, 2)
        self.assertIsNot(first, second)
        kept = list(first)
        first.clear()
        self.assertEqual(second, kept)
        second.append("no")
        self.assertEqual(closed_windows(PUSH, 2), kept)


if __name__ == "__main__":
    unittest.main()
