import re
import unittest
from random import Random

from likehands.changes import coarser, lacking, mirrored, renamed
from likehands.errors import HandsError, NoMap
from likehands.patterns import machine_of
from likehands.runs import come
from likehands.steps import after
from likehands.worlds import is_world, read_world, show_world
from helping import (ALL_LETTERS, HANDS, OTHERS, SHAPES, all_come, all_words, any_goal, any_rule, any_world, any_worlds,
                     is_of, kinds_of)

SMALL = "abcdefghijklmnopqrstuvwxyz"
# Every kind of rule and item there is.
ALL_KINDS = ("abc", "row", (
    ("one", "a", "b", None),
    ("one", "b", "c", ("all", "left", "ab")),
    ("one", "c", "a", ("some", "right", "bc")),
    ("one", "a", "a", ("all", "others", "c")),
    ("two", "a", "b", "c", "b"),
    ("call", "b", "c", "abb"),
), "a[bc]*.|b+c", "[a]c*|..|[abc]b+")


def patterns_of(world):
    return world[3:]


def from_behind(words):
    return sorted(word[::-1] for word in words)


def called(word, calls):
    return "".join(calls[letter] for letter in word)


def pattern_by(pattern, calls):
    """A pattern with letters called otherwise; in brackets each once and rising."""
    text = "".join(calls.get(sign, sign) for sign in pattern)
    return re.sub(r"\[(\w+)\]", lambda found: "[" + "".join(sorted(set(found[1]))) + "]", text)


def rule_by(rule, letters, calls):
    """A rule with letters called otherwise, where that may be."""
    kind, *parts = rule
    if kind == "two":
        return ("two", *[calls[letter] for letter in parts])
    x, y, more = parts
    if kind == "one":
        if more is not None:
            more = (*more[:2], "".join(sorted({calls[letter] for letter in more[2]})))
        return "one", calls[x], calls[y], more
    turns = {calls[letter]: calls[other] for letter, other in zip(letters, more)}
    return "call", calls[x], calls[y], "".join(turns[letter] for letter in sorted(turns))


def world_by(world, names):
    calls = dict(zip(world[0], names))
    rules = tuple(rule_by(rule, world[0], calls) for rule in world[2])
    letters = "".join(sorted(set(names)))
    return letters, world[1], rules, pattern_by(world[3], calls), pattern_by(world[4], calls)


def goes_with(world, names):
    """Whether letters that fall together have images that do, for every call."""
    calls = dict(zip(world[0], names))
    for rule in world[2]:
        if rule[0] == "call":
            turns = {(calls[letter], calls[other]) for letter, other in zip(world[0], rule[3])}
            if len(turns) != len({letter for letter, other in turns}):
                return False
    return True


def few(letters):
    """Numbers of hands that are gone through."""
    return range(1, min(4, HANDS[len(letters)]) + 1)


class Mirrored(unittest.TestCase):
    def test_worked_by_hand(self):
        self.assertEqual(mirrored(ALL_KINDS), ("abc", "row", (
            ("one", "a", "b", None),
            ("one", "b", "c", ("all", "right", "ab")),
            ("one", "c", "a", ("some", "left", "bc")),
            ("one", "a", "a", ("all", "others", "c")),
            ("two", "b", "a", "b", "c"),
            ("call", "b", "c", "abb"),
        ), ".[bc]*a|cb+", "c*[a]|..|b+[abc]"))

    def test_patterns(self):
        for pattern, other in (
            ("a", "a"), ("ab", "ba"), ("a*b", "ba*"), ("ab+", "b+a"), ("[ab]c", "c[ab]"), ("[ab]*c+", "c+[ab]*"),
            ("a|bc", "a|cb"), ("ab|bc|c", "ba|cb|c"), (".+a", "a.+"), ("[a][bc]+.*a", "a.*[bc]+[a]"),
            ("a*bc+[ab]..*b[abc]", "[abc]b.*.[ab]c+ba*"),
        ):
            told = mirrored(("abc", "ring", (), pattern, other))
            self.assertEqual(patterns_of(told), (other, pattern))

    def test_ring(self):
        world = ("ab", "ring", (("one", "a", "b", ("some", "others", "b")), ("two", "a", "b", "b", "b")), "ab", "b")
        self.assertEqual(mirrored(world), ("ab", "ring", (("one", "a", "b", ("some", "others", "b")),
                                                          ("two", "b", "a", "b", "b")), "ba", "b"))

    def test_worlds_by_chance(self):
        for world in any_worlds(261, 150, 8):
            told = mirrored(world)
            self.assertIs(is_world(told), True)
            self.assertEqual(mirrored(told), world)
            for number in few(world[0]):
                self.assertEqual(come(told, number), from_behind(all_come(world, number)), (world, number))
                for word in all_words(world[0], min(number, 3)):
                    self.assertEqual(is_of(told[3], word[::-1]), is_of(world[3], word))
                    self.assertEqual(is_of(told[4], word[::-1]), is_of(world[4], word))

    def test_each_kind_of_rule(self):
        chance = Random(262)
        for letters in ALL_LETTERS:
            for shape in SHAPES:
                for kind in kinds_of(shape):
                    rule = any_rule(chance, letters, kind)
                    told = mirrored((letters, shape, (rule,), ".", "."))[2][0]
                    for word in all_words(letters, 3):
                        self.assertEqual(after(letters, shape, told, word[::-1]),
                                         from_behind(after(letters, shape, rule, word)))


class Renamed(unittest.TestCase):
    def test_worked_by_hand(self):
        self.assertEqual(renamed(ALL_KINDS, "zab"), ("abz", "row", (
            ("one", "z", "a", None),
            ("one", "a", "b", ("all", "left", "az")),
            ("one", "b", "z", ("some", "right", "ab")),
            ("one", "z", "z", ("all", "others", "b")),
            ("two", "z", "a", "b", "a"),
            # Of z, a, b (once a, b, c) come z, a, a: so of a, b, z come a, a, z.
            ("call", "a", "b", "aaz"),
        ), "z[ab]*.|a+b", "[z]b*|..|[abz]a+"))

    def test_its_own_letters(self):
        self.assertEqual(renamed(ALL_KINDS, "abc"), ALL_KINDS)
        world = ("ab", "row", (("call", "a", "b", "ab"), ("one", "a", "b", ("all", "left", "a"))), "a[ab]", "b")
        self.assertEqual(renamed(world, "ba"),
                         ("ab", "row", (("call", "b", "a", "ab"), ("one", "b", "a", ("all", "left", "b"))), "b[ab]", "a"))
        world = ("ab", "row", (("call", "a", "b", "aa"),), "a", "b")
        self.assertEqual(renamed(world, "ba"), ("ab", "row", (("call", "b", "a", "bb"),), "b", "a"))

    def test_letters_that_are_not_named_otherwise_in_turn(self):
        # Each letter is called once: a does not become c by way of b.
        self.assertEqual(renamed(("ab", "ring", (), "ab", "ba"), "bc"), ("bc", "ring", (), "bc", "cb"))

    def test_worlds_by_chance(self):
        chance = Random(263)
        for world in any_worlds(263, 150, 8):
            names = "".join(chance.sample(chance.choice((SMALL, SMALL[:5])), len(world[0])))
            told = renamed(world, names)
            self.assertIs(is_world(told), True)
            self.assertEqual(told, world_by(world, names))
            calls = dict(zip(world[0], names))
            back = "".join(letter for name, letter in sorted(zip(names, world[0])))
            self.assertEqual(renamed(told, back), world)
            for number in few(world[0]):
                meant = sorted(called(word, calls) for word in all_come(world, number))
                self.assertEqual(come(told, number), meant, (world, names))

    def test_no_map(self):
        for world in (ALL_KINDS, mirrored(ALL_KINDS)):
            for names in ("", "a", "ab", "abcd", "abcde", "aab", "aba", "aaa", "abC", "a b", "ab1", "ab.", "ab\n", "ab-",
                          "xyzw", "ABC", "[a]", "a|b", " abc", "abc ", "ab\u00e4"):
                self.refused(world, names)
        self.refused(("a", "row", (), "a", "a"), "")
        self.refused(("a", "row", (), "a", "a"), "ab")
        self.assertEqual(renamed(("a", "row", (), "a", "a"), "z"), ("z", "row", (), "z", "z"))

    def test_no_map_of_anything(self):
        for thing in OTHERS + [["a", "b", "c"], ("a", "b", "c"), {"a": "b"}, b"abc", 3]:
            self.refused(ALL_KINDS, thing)

    def refused(self, world, names):
        with self.assertRaises(NoMap) as raised:
            renamed(world, names)
        self.assertIsInstance(raised.exception, HandsError)


class Coarser(unittest.TestCase):
    def test_worked_by_hand(self):
        self.assertEqual(coarser(ALL_KINDS, "xyy"), ("xy", "row", (
            ("one", "x", "y", None),
            ("one", "y", "y", ("all", "left", "xy")),
            ("one", "y", "x", ("some", "right", "y")),
            ("one", "x", "x", ("all", "others", "y")),
            ("two", "x", "y", "y", "y"),
            ("call", "y", "y", "xy"),
        ), "x[y]*.|y+y", "[x]y*|..|[xy]y+"))
        self.assertEqual(coarser(ALL_KINDS[:2] + (ALL_KINDS[2][:5],) + ALL_KINDS[3:], "bab"), ("ab", "row", (
            ("one", "b", "a", None),
            ("one", "a", "b", ("all", "left", "ab")),
            ("one", "b", "b", ("some", "right", "ab")),
            ("one", "b", "b", ("all", "others", "b")),
            ("two", "b", "a", "b", "a"),
        ), "b[ab]*.|a+b", "[b]b*|..|[ab]a+"))

    def test_all_letters_fall_together(self):
        self.assertEqual(coarser(ALL_KINDS, "zzz"), ("z", "row", (
            ("one", "z", "z", None),
            ("one", "z", "z", ("all", "left", "z")),
            ("one", "z", "z", ("some", "right", "z")),
            ("one", "z", "z", ("all", "others", "z")),
            ("two", "z", "z", "z", "z"),
            ("call", "z", "z", "z"),
        ), "z[z]*.|z+z", "[z]z*|..|[z]z+"))

    def test_what_comes_to_be_alike_stays(self):
        rules = (("one", "a", "b", None), ("one", "a", "c", None), ("two", "a", "a", "b", "c"), ("two", "a", "a", "c", "b"))
        self.assertEqual(coarser(("abc", "row", rules, "a|b|c", "[bc]|[c]|[b]"), "xyy"), (
            "xy", "row", (("one", "x", "y", None), ("one", "x", "y", None), ("two", "x", "x", "y", "y"),
                          ("two", "x", "x", "y", "y")), "x|y|y", "[y]|[y]|[y]"))

    def test_unlike_letters(self):
        for world in any_worlds(264, 30, 6):
            for names in (SMALL[::-1][:len(world[0])], SMALL[:len(world[0])]):
                self.assertEqual(coarser(world, names), renamed(world, names))

    def test_calls(self):
        # Where b and c fall together their images must do so, too.
        for image, names, other in (
            ("abc", "xyy", "xy"), ("acb", "xyy", "xy"), ("bbc", "xyy", "yy"), ("caa", "xyy", "yx"), ("aab", "xyy", None),
            ("aca", "xyy", None), ("abc", "yyx", "xy"), ("cca", "yyx", "yx"), ("cba", "yyx", None), ("bca", "zzz", "z"),
            ("bab", "xyx", "yx"), ("abb", "xyx", None), ("bbc", "yxy", None), ("cbb", "yzz", "zz"), ("abc", "cba", "abc"),
        ):
            world = ("abc", "ring", (("call", "a", "c", image),), "a", "b")
            if other is None:
                with self.assertRaises(NoMap):
                    coarser(world, names)
            else:
                calls = dict(zip("abc", names))
                self.assertEqual(coarser(world, names)[2], (("call", calls["a"], calls["c"], other),), (image, names))

    def test_a_later_call_is_looked_at_too(self):
        rules = (("one", "a", "b", None), ("call", "a", "b", "abb"), ("call", "a", "b", "aab"), ("two", "a", "a", "b", "b"))
        with self.assertRaises(NoMap):
            coarser(("abc", "row", rules, "a", "b"), "xyy")
        told = coarser(("abc", "row", rules[:2] + rules[3:], "a", "b"), "xyy")
        self.assertEqual(told[2][1], ("call", "x", "y", "xy"))

    def test_worlds_by_chance(self):
        chance = Random(265)
        refused = 0
        for world in any_worlds(265, 250, 6):
            names = "".join(chance.choice("axyz"[:len(world[0])]) for _ in world[0])
            if not goes_with(world, names):
                refused += 1
                with self.assertRaises(NoMap):
                    coarser(world, names)
                continue
            told = coarser(world, names)
            self.assertIs(is_world(told), True)
            self.assertEqual(told, world_by(world, names), (world, names))
            self.assertEqual(read_world(show_world(told)), told)
            calls = dict(zip(world[0], names))
            for number in few(world[0]):
                mapped = {called(word, calls) for word in all_come(world, number)}
                words = all_come(told, number)
                self.assertLessEqual(mapped, words)
                # Where no bad word comes there none comes here.
                if not [word for word in words if is_of(told[4], word)]:
                    self.assertFalse([word for word in all_come(world, number) if is_of(world[4], word)])
        self.assertGreater(refused, 20)

    def test_no_map(self):
        parting = ("abc", "row", (("call", "a", "b", "aab"),), "a", "b")
        with self.assertRaises(NoMap):
            coarser(parting, "xyy")
        for world in (ALL_KINDS, parting):
            for names in ("", "x", "xy", "xyxy", "xxxxx", "xyY", "x y", "xy1", "xy.", "xy\n", "[x]", "XYZ", " xyz", "xyz ",
                          "xy\u00e4"):
                with self.assertRaises(NoMap):
                    coarser(world, names)
            for thing in OTHERS + [["x", "y", "y"], ("x", "y", "y"), {"a": "x"}, b"xyy", 3]:
                with self.assertRaises(NoMap):
                    coarser(world, thing)


class Lacking(unittest.TestCase):
    def test_worked_by_hand(self):
        rules = ALL_KINDS[2]
        for numbers, left in (
            ([], (0, 1, 2, 3, 4, 5)), ([0], (1, 2, 3, 4, 5)), ([5], (0, 1, 2, 3, 4)), ([3, 1], (0, 2, 4, 5)),
            ([5, 0, 2], (1, 3, 4)), ([4, 3, 2, 1, 0], (5,)), ([2, 4, 0, 1, 5, 3], ()),
        ):
            told = lacking(ALL_KINDS, numbers)
            self.assertEqual(told, ALL_KINDS[:2] + (tuple(rules[number] for number in left),) + ALL_KINDS[3:])
            self.assertIs(type(told[2]), tuple)
            self.assertIs(is_world(told), True)

    def test_rules_that_are_alike(self):
        rule = ("one", "a", "b", None)
        self.assertEqual(lacking(("ab", "row", (rule, rule), "a", "b"), [1])[2], (rule,))

    def test_the_list_stays(self):
        numbers = [3, 0, 4]
        told = lacking(ALL_KINDS, numbers)
        self.assertEqual(numbers, [3, 0, 4])
        numbers.append(1)
        self.assertEqual(told, lacking(ALL_KINDS, [0, 3, 4]))

    def test_what_comes_comes_in_the_whole(self):
        chance = Random(266)
        for turn in range(60):
            letters = ALL_LETTERS[turn % 5]
            world = any_world(chance, letters, SHAPES[turn % 2], 5)
            numbers = chance.sample(range(5), chance.randrange(6))
            told = lacking(world, numbers)
            self.assertEqual(len(told[2]), 5 - len(numbers))
            for number in few(letters):
                self.assertLessEqual(set(come(told, number)), all_come(world, number))


class Handed(unittest.TestCase):
    def test_the_world_stays(self):
        kept = repr(ALL_KINDS)
        mirrored(ALL_KINDS)
        renamed(ALL_KINDS, "zab")
        coarser(ALL_KINDS, "xyy")
        lacking(ALL_KINDS, [1])
        self.assertEqual(repr(ALL_KINDS), kept)

    def test_patterns_stand_for_the_called_words(self):
        chance = Random(267)
        for turn in range(60):
            letters = ALL_LETTERS[turn % 5]
            begin = any_goal(chance, letters, 5)
            names = "".join(chance.sample(SMALL, len(letters)))
            told = renamed((letters, "row", (), begin, begin), names)
            calls = dict(zip(letters, names))
            self.assertEqual(told[3], told[4])
            self.assertEqual(len(machine_of(told[0], told[3])[1]), len(machine_of(letters, begin)[1]))
            for word in all_words(letters, 3):
                self.assertEqual(is_of(told[3], called(word, calls)), is_of(begin, word))


if __name__ == "__main__":
    unittest.main()
