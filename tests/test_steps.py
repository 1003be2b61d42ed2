import unittest
from random import Random

from likehands.steps import after, steps_of
from helping import (ALL_LETTERS, SHAPES, any_rule, any_word, any_world, any_worlds, kinds_of, stepped, words_up_to)

SHORT = {1: 12, 2: 7, 3: 5, 4: 4, 5: 3}


class Case(unittest.TestCase):
    def both_shapes(self, rule, word, words, letters="abc"):
        for shape in SHAPES:
            self.comes(shape, rule, word, words, letters)

    def comes(self, shape, rule, word, words, letters="abc"):
        told = after(letters, shape, rule, word)
        self.assertIs(type(told), list)
        self.assertEqual(told, words, (shape, rule, word))


class One(Case):
    def test_without_a_guard(self):
        rule = ("one", "a", "b", None)
        self.both_shapes(rule, "", [])
        self.both_shapes(rule, "a", ["b"])
        self.both_shapes(rule, "b", [])
        self.both_shapes(rule, "ca", ["cb"])
        self.both_shapes(rule, "aba", ["abb", "bba"])
        self.both_shapes(rule, "aaa", ["aab", "aba", "baa"])
        self.both_shapes(rule, "c" * 40, [])
        self.both_shapes(rule, "a" * 40, ["a" * (39 - at) + "b" + "a" * at for at in range(40)])

    def test_x_and_y_one_letter(self):
        rule = ("one", "a", "a", None)
        self.both_shapes(rule, "", [])
        self.both_shapes(rule, "a", ["a"])
        self.both_shapes(rule, "b", [])
        self.both_shapes(rule, "aba", ["aba"])
        self.both_shapes(("one", "a", "a", ("all", "others", "b")), "aba", [])
        self.both_shapes(("one", "a", "a", ("all", "others", "b")), "abb", ["abb"])

    def test_all_left(self):
        rule = ("one", "a", "b", ("all", "left", "bc"))
        for word, words in (("", []), ("a", ["b"]), ("b", []), ("aa", ["ba"]), ("ba", ["bb"]), ("baca", ["bbca"]),
                            ("cbaa", ["cbba"]), ("bcb", []), ("aca", ["bca"])):
            self.comes("row", rule, word, words)
        rule = ("one", "a", "b", ("all", "left", "a"))
        self.comes("row", rule, "aaba", ["abba", "baba"])

    def test_all_right(self):
        rule = ("one", "a", "b", ("all", "right", "bc"))
        for word, words in (("", []), ("a", ["b"]), ("aa", ["ab"]), ("ab", ["bb"]), ("acab", ["acbb"]), ("abc", ["bbc"])):
            self.comes("row", rule, word, words)

    def test_all_others(self):
        rule = ("one", "a", "b", ("all", "others", "bc"))
        for word, words in (("", []), ("a", ["b"]), ("aa", []), ("ab", ["bb"]), ("cab", ["cbb"]), ("aba", []), ("bc", [])):
            self.both_shapes(rule, word, words)
        # Its own letter doesn't count, the others' do.
        self.both_shapes(("one", "a", "c", ("all", "others", "a")), "aaa", ["aac", "aca", "caa"])
        self.both_shapes(("one", "a", "c", ("all", "others", "a")), "aab", [])

    def test_some_left(self):
        rule = ("one", "a", "b", ("some", "left", "bc"))
        for word, words in (("", []), ("a", []), ("aa", []), ("ba", ["bb"]), ("abaa", ["abab", "abba"]), ("ab", []),
                            ("aac", []), ("aca", ["acb"])):
            self.comes("row", rule, word, words)

    def test_some_right(self):
        rule = ("one", "a", "b", ("some", "right", "bc"))
        for word, words in (("", []), ("a", []), ("ab", ["bb"]), ("ba", []), ("aaba", ["abba", "baba"]), ("aca", ["bca"])):
            self.comes("row", rule, word, words)

    def test_some_others(self):
        rule = ("one", "a", "b", ("some", "others", "a"))
        for word, words in (("", []), ("a", []), ("aa", ["ab", "ba"]), ("ab", []), ("bab", []), ("aba", ["abb", "bba"])):
            self.both_shapes(rule, word, words)
        rule = ("one", "a", "c", ("some", "others", "b"))
        for word, words in (("a", []), ("b", []), ("ab", ["cb"]), ("ba", ["bc"]), ("aba", ["abc", "cba"]), ("aac", [])):
            self.both_shapes(rule, word, words)

    def test_where_there_are_no_hands(self):
        for where in ("left", "right", "others"):
            self.comes("row", ("one", "a", "b", ("all", where, "c")), "a", ["b"])
            self.comes("row", ("one", "a", "b", ("some", where, "abc")), "a", [])
        self.comes("row", ("one", "a", "b", ("all", "left", "c")), "abbb", ["bbbb"])
        self.comes("row", ("one", "a", "b", ("all", "right", "c")), "bbba", ["bbbb"])
        self.comes("row", ("one", "a", "b", ("some", "left", "abc")), "abbb", [])
        self.comes("row", ("one", "a", "b", ("some", "right", "abc")), "bbba", [])
        self.comes("ring", ("one", "a", "b", ("all", "others", "c")), "a", ["b"])
        self.comes("ring", ("one", "a", "b", ("some", "others", "abc")), "a", [])


class Two(Case):
    def test_in_a_row(self):
        rule = ("two", "a", "b", "c", "a")
        for word, words in (("", []), ("a", []), ("ab", ["ca"]), ("ba", []), ("abab", ["abca", "caab"]), ("bcca", []),
                            ("aab", ["aca"]), ("abb", ["cab"])):
            self.comes("row", rule, word, words)

    def test_in_a_ring(self):
        rule = ("two", "a", "b", "c", "a")
        for word, words in (("", []), ("a", []), ("b", []), ("ab", ["ca"]), ("ba", ["ac"]), ("bca", ["acc"]),
                            ("abab", ["abca", "caab"]), ("baba", ["aabc", "bcaa"]), ("bcca", ["accc"])):
            self.comes("ring", rule, word, words)

    def test_a_ring_of_two_has_two_pairs(self):
        self.comes("ring", ("two", "a", "a", "b", "c"), "aa", ["bc", "cb"])
        self.comes("row", ("two", "a", "a", "b", "c"), "aa", ["bc"])
        self.comes("ring", ("two", "a", "a", "b", "b"), "aa", ["bb"])
        self.comes("ring", ("two", "b", "a", "c", "c"), "ab", ["cc"])
        self.comes("row", ("two", "b", "a", "c", "c"), "ab", [])

    def test_one_hand_has_no_neighbour(self):
        self.both_shapes(("two", "a", "a", "b", "b"), "a", [])
        self.both_shapes(("two", "a", "a", "a", "a"), "a", [])

    def test_overlapping_pairs(self):
        self.comes("row", ("two", "a", "a", "b", "c"), "aaa", ["abc", "bca"])
        self.comes("ring", ("two", "a", "a", "b", "c"), "aaa", ["abc", "bca", "cab"])

    def test_both_at_once(self):
        self.comes("row", ("two", "a", "b", "b", "a"), "ab", ["ba"])
        self.comes("ring", ("two", "a", "b", "b", "a"), "ab", ["ba"])
        self.comes("row", ("two", "a", "b", "a", "b"), "cabab", ["cabab"])


class Call(Case):
    def test_worked_by_hand(self):
        # a becomes b; of the others a becomes a, b becomes a, c becomes c.
        rule = ("call", "a", "b", "aac")
        for word, words in (("", []), ("a", ["b"]), ("b", []), ("ab", ["ba"]), ("aa", ["ab", "ba"]), ("abca", ["aacb", "baca"]),
                            ("cab", ["cba"]), ("bcb", [])):
            self.both_shapes(rule, word, words)

    def test_the_image_stands_by_the_letters_order(self):
        self.both_shapes(("call", "x", "x", "zxk"), "kxz", ["zxk"], "kxz")
        self.both_shapes(("call", "k", "z", "xxx"), "kxz", ["zxx"], "kxz")

    def test_its_own_letter_is_not_turned(self):
        self.both_shapes(("call", "a", "a", "bbb"), "aca", ["abb", "bba"])

    def test_different_places_one_word(self):
        self.both_shapes(("call", "a", "b", "bbb"), "aaa", ["bbb"])


class PlaceByPlace(Case):
    def check(self, letters, shape, rule, word):
        told = after(letters, shape, rule, word)
        self.assertIs(type(told), list)
        self.assertEqual(told, sorted(stepped(letters, shape, rule, word)), (letters, shape, rule, word))

    def test_short_words(self):
        chance = Random(81)
        for letters in ALL_LETTERS:
            words = words_up_to(letters, SHORT[len(letters)])
            for shape in SHAPES:
                for kind in kinds_of(shape):
                    for turn in range(6):
                        rule = any_rule(chance, letters, kind)
                        for word in words:
                            self.check(letters, shape, rule, word)

    def test_up_to_forty_hands(self):
        chance = Random(82)
        for letters in ALL_LETTERS:
            for shape in SHAPES:
                for kind in kinds_of(shape):
                    for length in (1, 2, 3, 8, 17, 31, 39, 40):
                        for turn in range(4):
                            rule = any_rule(chance, letters, kind)
                            self.check(letters, shape, rule, any_word(chance, letters, length))
                            # Words of few letters let guards hold more often.
                            self.check(letters, shape, rule, any_word(chance, letters[:2], length))

    def test_the_empty_word(self):
        chance = Random(83)
        for letters in ALL_LETTERS:
            for shape in SHAPES:
                for kind in kinds_of(shape):
                    self.comes(shape, any_rule(chance, letters, kind), "", [], letters)

    def test_each_list_is_the_askers_own(self):
        chance = Random(84)
        for shape in SHAPES:
            for kind in kinds_of(shape):
                for turn in range(20):
                    rule = any_rule(chance, "ab", kind)
                    word = any_word(chance, "ab", 5)
                    first = after("ab", shape, rule, word)
                    second = after("ab", shape, rule, word)
                    self.assertIsNot(first, second)
                    kept = list(first)
                    first.append("no")
                    self.assertEqual(second, kept)
                    second.clear()
                    self.assertEqual(after("ab", shape, rule, word), kept)


class StepsOf(unittest.TestCase):
    def test_worked_by_hand(self):
        rules = (("two", "a", "b", "b", "a"), ("one", "a", "b", None), ("one", "c", "a", None), ("one", "a", "b", None))
        world = ("abc", "row", rules, "a", "b")
        self.assertEqual(steps_of(world, "aab"), [(0, "aba"), (1, "abb"), (1, "bab"), (3, "abb"), (3, "bab")])
        self.assertEqual(steps_of(world, "c"), [(2, "a")])
        self.assertEqual(steps_of(world, "b"), [])
        self.assertEqual(steps_of(world, ""), [])

    def test_a_ring(self):
        world = ("ab", "ring", (("two", "a", "b", "b", "a"),), "a", "b")
        self.assertEqual(steps_of(world, "bba"), [(0, "abb")])
        self.assertEqual(steps_of(("ab", "row") + world[2:], "bba"), [])

    def test_no_rules(self):
        for letters in ALL_LETTERS:
            for shape in SHAPES:
                world = (letters, shape, (), letters[0], letters[0])
                self.assertEqual(steps_of(world, letters[0] * 5), [])
                self.assertEqual(steps_of(world, ""), [])

    def test_rules_that_are_alike(self):
        chance = Random(85)
        for shape in SHAPES:
            for kind in kinds_of(shape):
                rule = any_rule(chance, "ab", kind)
                world = ("ab", shape, (rule,) * 8, "a", "b")
                for word in words_up_to("ab", 4):
                    comes = sorted(stepped("ab", shape, rule, word))
                    self.assertEqual(steps_of(world, word), [(number, other) for number in range(8) for other in comes])

    def test_worlds_by_chance(self):
        chance = Random(86)
        for turn, world in enumerate(any_worlds(86, 150, 8)):
            for length in (0, 1, 2, 3, 6, 40):
                word = any_word(chance, world[0], length)
                told = steps_of(world, word)
                meant = {(number, other) for number, rule in enumerate(world[2])
                         for other in stepped(world[0], world[1], rule, word)}
                self.assertIs(type(told), list)
                self.assertEqual(told, sorted(meant))
                for step in told:
                    self.assertIs(type(step), tuple)
                    self.assertIs(type(step[0]), int)
                    self.assertIs(type(step[1]), str)

    def test_each_list_is_the_askers_own(self):
        world = any_world(Random(87), "ab", "ring", 8)
        first = steps_of(world, "abab")
        second = steps_of(world, "abab")
        self.assertGreater(len(first), 0)
        kept = list(first)
        first.clear()
        self.assertEqual(second, kept)
        second[0] = None
        self.assertEqual(steps_of(world, "abab"), kept)


if __name__ == "__main__":
    unittest.main()
