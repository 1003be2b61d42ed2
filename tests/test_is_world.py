import unittest
from random import Random

from likehands.worlds import is_world, read_world, show_world
from helping import ALL_LETTERS, KINDS, OTHERS, SHAPES, Unfriendly, any_rule, any_world, any_worlds, kinds_of

RULES = (
    ("one", "a", "b", None),
    ("one", "c", "a", ("all", "left", "ab")),
    ("one", "b", "b", ("some", "right", "c")),
    ("one", "b", "a", ("some", "others", "abc")),
    ("two", "a", "b", "c", "a"),
    ("call", "a", "b", "aac"),
)
GOOD = ("abc", "row", RULES, "ab*", ".*[ab]|c+")
RING = ("abc", "ring", (RULES[0],) + RULES[3:], "ab*", ".*[ab]|c+")


def put(row, at, part):
    """A tuple with another part at a place."""
    return row[:at] + (part,) + row[at + 1:]


class Case(unittest.TestCase):
    def is_one(self, thing):
        self.assertIs(is_world(thing), True, thing)

    def is_none(self, thing):
        self.assertIs(is_world(thing), False, repr(thing))

    def rule_is_none(self, bad, at=None):
        """A world with a rule that is none, wherever it stands among others."""
        if at is not None:
            self.is_none(put(GOOD, 2, put(RULES, at, bad)))
            return
        for rules in ((bad,), (bad,) + RULES, RULES + (bad,), RULES[:2] + (bad,) + RULES[2:]):
            self.is_none(put(GOOD, 2, rules))


class Worlds(Case):
    def test_worked_by_hand(self):
        self.is_one(GOOD)
        self.is_one(RING)
        self.is_one(("a", "row", (), "a", "a"))
        self.is_one(("z", "ring", (), "z+", ".z*"))

    def test_worlds_of_one_to_five_letters(self):
        chance = Random(61)
        for letters in ALL_LETTERS + ("z", "vwxyz", "agm"):
            for shape in SHAPES:
                for many in range(9):
                    self.is_one(any_world(chance, letters, shape, many))

    def test_each_kind_of_rule(self):
        chance = Random(62)
        for letters in ALL_LETTERS:
            for shape in SHAPES:
                for kind in kinds_of(shape):
                    for turn in range(5):
                        rule = any_rule(chance, letters, kind)
                        self.is_one((letters, shape, (rule,), letters[0], letters[-1] + "+"))

    def test_left_and_right_in_a_row_alone(self):
        chance = Random(63)
        for letters in ALL_LETTERS:
            for kind in KINDS:
                rule = any_rule(chance, letters, kind)
                world = (letters, "ring", (rule,), letters[0], letters[-1])
                (self.is_one if kind in kinds_of("ring") else self.is_none)(world)
                self.is_one(put(world, 1, "row"))

    def test_rules_that_are_alike(self):
        self.is_one(put(GOOD, 2, RULES[:1] * 8))

    def test_more_than_eight_rules_and_thirty_signs_are_no_fault(self):
        self.is_one(put(GOOD, 2, RULES * 2))
        self.is_one(put(GOOD, 3, "|".join(["[abc]+"] * 8)))

    def test_told_worlds(self):
        for world in any_worlds(64, 20):
            self.is_one(read_world(show_world(world)))


class NoWorlds(Case):
    def test_the_whole(self):
        letters, shape, rules, begin, bad = GOOD
        for thing in (list(GOOD), GOOD[:4], GOOD[1:], GOOD + (None,), GOOD + ("",), GOOD + GOOD, (GOOD,), (GOOD,) * 5,
                      dict(enumerate(GOOD)), show_world(GOOD), (shape, letters, rules, begin, bad),
                      (letters, shape, begin, bad, rules), (letters, rules, shape, begin, bad)):
            self.is_none(thing)
        self.assertIs(is_world(thing for thing in GOOD), False)

    def test_things_of_any_other_kind(self):
        for thing in OTHERS + [(), "a", "abc", GOOD[2], ("", "", (), "", "")]:
            self.is_none(thing)
            self.is_none((thing,) * 5)
        for thing in OTHERS:
            for at in range(5):
                self.is_none(put(GOOD, at, thing))
                self.is_none(put(RING, at, thing))

    def test_deep_and_endless_things(self):
        endless = []
        endless.append(endless)
        deep = ()
        for turn in range(5000):
            deep = (deep, deep, deep, deep, deep)
        for thing in (endless, deep):
            self.assertIs(is_world(thing), False)
            for at in range(5):
                self.assertIs(is_world(put(GOOD, at, thing)), False)
                self.assertIs(is_world(put(GOOD, 2, (put(RULES[4], at, thing),))), False)
            for at in range(4):
                self.assertIs(is_world(put(GOOD, 2, (put(RULES[1], at, thing),))), False)
            for at in range(3):
                self.assertIs(is_world(put(GOOD, 2, (put(RULES[1], 3, put(RULES[1][3], at, thing)),))), False)

    def test_the_letters(self):
        for bad in ("", "cba", "acb", "aabc", "abcc", "ABC", "ab", "bc", "abcdef", "abc ", " abc", "ab c", "a,b,c", "ab1",
                    "ab\u00e9", "abc\n", ["a", "b", "c"], ("a", "b", "c"), b"abc", {"a": 0, "b": 1, "c": 2}):
            self.is_none(put(GOOD, 0, bad))
        self.is_none(("ba", "row", (), "a", "b"))
        self.is_none(("aa", "row", (), "a", "a"))
        self.is_none(("", "row", (), "", ""))
        self.is_none(("abcdef", "row", (), "a", "b"))
        self.is_none(("A", "row", (), "A", "A"))
        self.is_none((["a"], "row", (), "a", "a"))

    def test_the_shape(self):
        for bad in ("", "Row", "ROW", "rows", "ro", "row ", " row", "row\n", "rin", "Ring", "rings", "line", "row ring",
                    "rowring", ("row",), ["row"], b"row", 0, 1, True):
            self.is_none(put(GOOD, 1, bad))
            self.is_none(put(RING, 1, bad))

    def test_the_rules(self):
        for bad in (list(RULES), RULES[0], RULES[4], None, "", "one", dict(enumerate(RULES)), show_world(GOOD), set(RULES),
                    iter(RULES), (RULES,), [[]], ((),), ([],), (None,), ("",)):
            self.is_none(put(GOOD, 2, bad))

    def test_one_rule(self):
        for thing in OTHERS + [(), "one", "two ab -> ba", ("one",), ("one", "a"), ("one", "a", "b"), ("two", "a", "b"),
                               ("two", "a", "b", "c"), ("call", "a", "b"), ("one", "a", "b", None, None), RULES,
                               ("one", "a", "b", None, "a"), ("two", "a", "b", "c", "a", "b"), ("two", "a", "b", "ca"),
                               ("two", "ab", "ca"), ("call", "a", "b", "aac", None), ("call", "a", "b", "aac", "a"),
                               ("call", "a", "b", "a", "a"), ("one", "a", "b", "a", "a"), ("one", "a", "b", "all", "left", "ab"),
                               ("two", "a", "b", None), ("two", "a", "b", ("all", "left", "ab")), ("call", "a", "b", None),
                               ("call", "a", "b", ("all", "left", "ab")), ("one", "a", "b", "aac"), (RULES[0],)]:
            self.rule_is_none(thing)
        for at, rule in enumerate(RULES):
            self.rule_is_none(list(rule), at)
            self.rule_is_none(rule[:-1], at)
            self.rule_is_none(rule[1:], at)
            self.rule_is_none(rule + (None,), at)
            self.rule_is_none(rule + ("a",), at)
            self.rule_is_none(rule + (None, None), at)
            self.rule_is_none(rule + ("a", "a"), at)
            self.rule_is_none(rule[::-1], at)
            self.rule_is_none(dict(enumerate(rule)), at)
            self.rule_is_none((rule,), at)
            self.rule_is_none("".join(str(part) for part in rule), at)

    def test_a_rules_kind(self):
        for at, rule in enumerate(RULES):
            for bad in OTHERS + ["One", "ones", "on", "one ", " one", "TWO", "calls", "", "three", "row", "a", "all",
                                 ("one",), ["two"], b"call"]:
                self.rule_is_none(put(rule, 0, bad), at)

    def test_a_rules_letters(self):
        for at, rule in enumerate(RULES):
            for place in range(1, 5 if rule[0] == "two" else 3):
                for bad in OTHERS + ["", "d", "z", "A", "ab", "bc", "abc", " ", "a ", "1", ".", "\n", ("a",), ["a"], b"a",
                                     {"a": 1}, "\u00e9"]:
                    self.rule_is_none(put(rule, place, bad), at)

    def test_a_guard(self):
        good = ("all", "left", "ab")
        for bad in OTHERS + [(), list(good), good[:2], good[1:], good + (None,), good + ("c",), good[::-1], (good,),
                             "all left in ab", "ab", ("all", "ab"), dict(enumerate(good)), ("left", "all", "ab")]:
            if bad is not None:
                self.rule_is_none(("one", "a", "b", bad))
        for bad in OTHERS + ["", "All", "any", "none", "alls", "some ", "every", "left", ("all",), ["all"], b"all"]:
            self.rule_is_none(("one", "a", "b", (bad, "left", "ab")))
        for bad in OTHERS + ["", "Left", "lef", "lefts", "rights", "other", "both", "all", "others ", "hands", ("left",),
                             ["left"], b"left"]:
            self.rule_is_none(("one", "a", "b", ("all", bad, "ab")))
        for bad in OTHERS + ["", "ba", "ca", "acb", "aa", "aab", "abb", "aba", "d", "ad", "abcd", "A", "a b", "ab ", " ab",
                             "a,b", ".", "[ab]", "a*", ("a", "b"), ["a", "b"], ("ab",), b"ab", {"a": 1}, {"a", "b"}]:
            self.rule_is_none(("one", "a", "b", ("all", "left", bad)))
            self.rule_is_none(("one", "a", "b", ("some", "others", bad)))

    def test_a_guard_in_a_ring(self):
        for how in ("all", "some"):
            self.is_one(put(RING, 2, (("one", "a", "b", (how, "others", "ab")),)))
            for bad in ["left", "right", "other", "", "Others", ("others",)] + OTHERS:
                self.is_none(put(RING, 2, (("one", "a", "b", (how, bad, "ab")),)))
                self.is_none(put(RING, 2, RING[2] + (("one", "a", "b", (how, bad, "ab")),)))

    def test_an_image(self):
        for good in ("abc", "aaa", "ccc", "cba", "bab"):
            self.is_one(put(GOOD, 2, (("call", "a", "b", good),)))
        for bad in OTHERS + ["", "a", "aa", "ab", "aaaa", "abca", "abcabc", "abd", "dab", "adb", "ABC", "ab ", " ab", "a b",
                             "ab\n", "...", ("a", "b", "c"), ["a", "b", "c"], ("abc",), b"abc", {"a": "a"}]:
            self.rule_is_none(("call", "a", "b", bad))
        self.is_none(("a", "row", (("call", "a", "a", ""),), "a", "a"))
        self.is_none(("a", "row", (("call", "a", "a", "aa"),), "a", "a"))
        self.is_one(("a", "row", (("call", "a", "a", "a"),), "a", "a"))

    def test_begin_and_bad(self):
        for at in (3, 4):
            for good in ("a", ".", "[abc]", "a+", "ab*", "a*b", "a*b*c", "a|b", "b*a|c+", "aaaaaaaa"):
                self.is_one(put(GOOD, at, good))
            for bad in OTHERS + ["", "d", "a|", "|a", "[]", "[ba]", "[d]", "*", "a**", "a b", "(a)", "aaaaaaaaa", "a\n", "A",
                                 ("a",), ["a"], b"a", machine_pattern()]:
                self.is_none(put(GOOD, at, bad))

    def test_the_empty_word_is_of_neither(self):
        for at in (3, 4):
            for bad in ("a*", ".*", "[ab]*", "a*b*", "a|b*", "b*|a", "ab|c*|b", "a*|b*", "a*b*c*a*b*c*a*b*"):
                self.is_none(put(GOOD, at, bad))
                self.is_none(put(RING, at, bad))

    def test_parts_one_by_one(self):
        chance = Random(65)
        for turn in range(60):
            letters = ALL_LETTERS[turn % 5]
            world = any_world(chance, letters, SHAPES[turn % 2], 3)
            for at in range(5):
                for bad in (Unfriendly(), None, 7, [], b"", "A", ("A",)):
                    self.is_none(put(world, at, bad))
            for at in range(3):
                for place in range(len(world[2][at])):
                    for bad in (Unfriendly(), 7, [], b"", "A", "", ("A",)):
                        self.is_none(put(world, 2, put(world[2], at, put(world[2][at], place, bad))))

    def test_a_letter_that_is_none_of_the_worlds(self):
        for letters in ALL_LETTERS[:-1]:
            more = "".join(sorted(letters + "m"))
            chance = Random(66)
            for kind in KINDS:
                rule = any_rule(chance, "m", kind)
                if kind == "call":
                    rule = rule[:3] + ("m" * len(letters),)
                self.is_none((letters, "row", (rule,), letters[0], letters[0]))
            self.is_none((letters, "row", (), "m", letters[0]))
            self.is_none((letters, "row", (), letters[0], "m"))
            self.is_one((more, "row", (), "m", letters[0]))

    def test_it_stays_the_same(self):
        for world in any_worlds(67, 20):
            kept = repr(world)
            self.is_one(world)
            self.is_one(world)
            self.assertEqual(repr(world), kept)


def machine_pattern():
    """A machine, where a pattern should stand."""
    return "abc", ((0, 0, 0),), ()


if __name__ == "__main__":
    unittest.main()
