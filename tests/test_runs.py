import unittest
from itertools import product
from random import Random

from likehands.runs import come, first_broken, least_run
from helping import (ALL_LETTERS, HANDS, SHAPES, all_come, all_stepped, all_words, any_goal, any_world, any_worlds, is_of,
                     least_list)

# One hand at a time goes in from the left; two in are bad. With a guard on the others no two are ever in.
DOOR = ("io", "row", (("one", "o", "i", None), ("one", "i", "o", None)), "o+", ".*i.*i.*")
KEPT_DOOR = DOOR[:2] + ((("one", "o", "i", ("all", "others", "o")), DOOR[2][1]),) + DOOR[3:]
# A token goes round; all have had it.
TOKEN = ("abt", "ring", (("two", "t", "a", "b", "t"),), "ta*", "b*t")


def least_by_lists(world, number):
    return least_list(world, number, lambda word: is_of(world[4], word))


def is_run(world, words):
    """Whether a list of words is a run, straight from point 19."""
    if not is_of(world[3], words[0]) or not is_of(world[4], words[-1]):
        return False
    return all(other in all_stepped(world, word) for word, other in zip(words, words[1:]))


class Come(unittest.TestCase):
    def test_worked_by_hand(self):
        self.assertEqual(come(DOOR, 1), ["i", "o"])
        self.assertEqual(come(DOOR, 2), ["ii", "io", "oi", "oo"])
        self.assertEqual(come(KEPT_DOOR, 2), ["io", "oi", "oo"])
        self.assertEqual(come(KEPT_DOOR, 4), ["iooo", "oioo", "ooio", "oooi", "oooo"])
        self.assertEqual(come(TOKEN, 1), ["t"])
        self.assertEqual(come(TOKEN, 2), ["bt", "ta"])
        self.assertEqual(come(TOKEN, 3), ["bbt", "bta", "taa"])

    def test_none_of_begin(self):
        world = ("ab", "row", (("one", "a", "b", None),), "aa|bbb", "b")
        self.assertEqual(come(world, 1), [])
        self.assertEqual(come(world, 2), ["aa", "ab", "ba", "bb"])
        self.assertEqual(come(world, 3), ["bbb"])
        self.assertEqual(come(world, 4), [])

    def test_no_rules(self):
        for letters in ALL_LETTERS:
            world = (letters, "row", (), ".+", letters[0])
            for number in (1, 2, HANDS[len(letters)]):
                self.assertEqual(come(world, number), all_words(letters, number))

    def test_against_words_gone_through(self):
        for world in any_worlds(91, 150, 8):
            for number in range(1, min(4, HANDS[len(world[0])]) + 1):
                told = come(world, number)
                self.assertIs(type(told), list)
                self.assertEqual(told, sorted(all_come(world, number)), (world, number))

    def test_up_to_the_bounds(self):
        chance = Random(92)
        for letters in ALL_LETTERS:
            for shape in SHAPES:
                world = any_world(chance, letters, shape, 8)
                number = HANDS[len(letters)]
                self.assertEqual(come(world, number), sorted(all_come(world, number)))
        self.assertEqual(len(come(DOOR, 10)), 1024)
        self.assertEqual(len(come(KEPT_DOOR, 10)), 11)
        self.assertEqual(come(("a", "ring", (("two", "a", "a", "a", "a"),), "a+", "a"), 40), ["a" * 40])
        self.assertEqual(come(("abcde", "row", tuple(("one", *pair, None) for pair in ("ab", "bc", "cd", "de")),
                               "a+", "e+"), 4), all_words("abcde", 4))

    def test_each_list_is_the_askers_own(self):
        first = come(DOOR, 3)
        second = come(DOOR, 3)
        self.assertIsNot(first, second)
        kept = list(first)
        first.clear()
        self.assertEqual(second, kept)
        second.reverse()
        self.assertEqual(come(DOOR, 3), kept)


class LeastRun(unittest.TestCase):
    def test_worked_by_hand(self):
        self.assertIsNone(least_run(DOOR, 1))
        self.assertEqual(least_run(DOOR, 2), ["oo", "io", "ii"])
        self.assertEqual(least_run(DOOR, 3), ["ooo", "ioo", "iio"])
        self.assertIsNone(least_run(KEPT_DOOR, 2))
        self.assertIsNone(least_run(KEPT_DOOR, 10))
        self.assertEqual(least_run(TOKEN, 1), ["t"])
        self.assertEqual(least_run(TOKEN, 4), ["taaa", "btaa", "bbta", "bbbt"])

    def test_a_beginning_that_is_bad_itself(self):
        world = ("ab", "row", (("one", "a", "b", None),), "a+|b+", "b+|aab")
        self.assertEqual(least_run(world, 1), ["b"])
        self.assertEqual(least_run(world, 3), ["bbb"])
        world = ("ab", "row", (("one", "a", "b", None),), ".+", ".+")
        self.assertEqual(least_run(world, 3), ["aaa"])

    def test_of_several_the_first(self):
        # From a word that is later in order a run as short leads to an earlier bad word: the first list counts.
        world = ("abcd", "row", (("one", "a", "d", None), ("one", "b", "c", None)), "a|b", "c|d")
        self.assertEqual(least_run(world, 1), ["a", "d"])
        # The lesser second word goes ahead of the lesser last one, whatever the rules' order.
        rules = (("one", "a", "c", None), ("one", "a", "b", None), ("one", "b", "e", None), ("one", "c", "d", None))
        world = ("abcde", "row", rules, "a", "d|e")
        self.assertEqual(least_run(world, 1), ["a", "b", "e"])
        # A shorter one goes ahead of a lesser one.
        rules = (("one", "a", "b", None), ("one", "b", "c", None), ("one", "d", "c", None))
        world = ("abcd", "row", rules, "a|d", "c")
        self.assertEqual(least_run(world, 1), ["d", "c"])

    def test_all_lists_of_few_words(self):
        chance = Random(93)
        for turn in range(60):
            shape = SHAPES[turn % 2]
            world = any_world(chance, "ab", shape, 3)
            for number in (1, 2):
                words = all_words("ab", number)
                runs = [list(run) for many in range(1, len(words) + 1) for run in product(words, repeat=many)
                        if is_run(world, run)]
                self.assertEqual(least_run(world, number), runs[0] if runs else None, world)

    def test_against_words_gone_through(self):
        runs = 0
        longer = 0
        worlds = list(any_worlds(94, 300, 8))
        # Most of these begin with bad words or never come to any; of one beginning and one bad end runs are longer.
        worlds += [world[:3] + (world[0][0] + "+", world[0][-1] + "+") for world in worlds if len(world[0]) > 1]
        for world in worlds:
            for number in range(1, min(4, HANDS[len(world[0])]) + 1):
                told = least_run(world, number)
                self.assertEqual(told, least_by_lists(world, number), (world, number))
                if told is not None:
                    self.assertIs(type(told), list)
                    self.assertTrue(is_run(world, told))
                    runs += 1
                    longer += len(told) > 2
        self.assertGreater(runs, 200)
        self.assertGreater(longer, 40)

    def test_long_runs(self):
        rules = (("one", "a", "b", ("all", "left", "c")), ("one", "b", "c", None), ("one", "c", "a", ("some", "right", "b")))
        chance = Random(95)
        worlds = [("abc", "row", rules, "a+", "c+"), TOKEN, DOOR]
        worlds += [any_world(chance, "ab", "ring", 4)[:3] + ("a+", any_goal(chance, "ab", 6)) for turn in range(20)]
        for world in worlds:
            for number in (5, 6):
                self.assertEqual(least_run(world, number), least_by_lists(world, number))

    def test_up_to_the_bounds(self):
        self.assertEqual(least_run(("a", "row", (), "a+", "a+"), 40), ["a" * 40])
        self.assertEqual(least_run(("ab", "row", (("one", "a", "b", None),), "a+", "b+"), 10),
                         ["a" * (10 - many) + "b" * many for many in range(11)])
        self.assertEqual(least_run(TOKEN, 6), ["b" * at + "t" + "a" * (5 - at) for at in range(6)])
        self.assertEqual(least_run(("abcd", "ring", (("one", "a", "d", None),), "a+", "d+"), 5),
                         ["a" * (5 - many) + "d" * many for many in range(6)])
        self.assertEqual(len(least_run(("abcde", "row", tuple(("one", *pair, None) for pair in ("ab", "bc", "cd", "de")),
                                        "a+", "e+"), 4)), 17)

    def test_each_list_is_the_askers_own(self):
        first = least_run(DOOR, 3)
        second = least_run(DOOR, 3)
        self.assertIsNot(first, second)
        first.append("no")
        second.clear()
        self.assertEqual(least_run(DOOR, 3), ["ooo", "ioo", "iio"])


class FirstBroken(unittest.TestCase):
    def test_worked_by_hand(self):
        self.assertIsNone(first_broken(DOOR, 1))
        self.assertEqual(first_broken(DOOR, 2), (2, ["oo", "io", "ii"]))
        self.assertEqual(first_broken(DOOR, 10), (2, ["oo", "io", "ii"]))
        self.assertIsNone(first_broken(KEPT_DOOR, 10))
        self.assertEqual(first_broken(TOKEN, 6), (1, ["t"]))

    def test_the_greatest_number_too(self):
        world = ("a", "row", (), "a+", "aaaaa+")
        self.assertIsNone(first_broken(world, 4))
        for greatest in (5, 6, 40):
            self.assertEqual(first_broken(world, greatest), (5, ["aaaaa"]))
        world = ("a", "ring", (), "aaaaaaaa+", "a+")
        self.assertIsNone(first_broken(world, 7))
        self.assertEqual(first_broken(world, 8), (8, ["aaaaaaaa"]))
        self.assertIsNone(first_broken(("ab", "row", (), "a+", "b+"), 10))
        self.assertIsNone(first_broken(("a", "row", (), "aa", "aaa"), 40))

    def test_a_longer_run_with_fewer_hands_goes_first(self):
        world = ("abc", "row", (("one", "a", "b", None), ("one", "b", "c", None)), "a|bb", "c|bb")
        self.assertEqual(first_broken(world, 3), (1, ["a", "b", "c"]))

    def test_against_words_gone_through(self):
        for world in any_worlds(96, 200, 8):
            greatest = min(4, HANDS[len(world[0])])
            told = first_broken(world, greatest)
            runs = [(number, least_by_lists(world, number)) for number in range(1, greatest + 1)]
            meant = next((pair for pair in runs if pair[1] is not None), None)
            self.assertEqual(told, meant, world)
            if told is not None:
                self.assertIs(type(told), tuple)
                self.assertIs(type(told[0]), int)
                self.assertIs(type(told[1]), list)

    def test_each_list_is_the_askers_own(self):
        first = first_broken(DOOR, 3)
        first[1].clear()
        self.assertEqual(first_broken(DOOR, 3), (2, ["oo", "io", "ii"]))
        self.assertEqual(least_run(DOOR, 2), ["oo", "io", "ii"])


if __name__ == "__main__":
    unittest.main()
