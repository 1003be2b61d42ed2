import re
import unittest
from itertools import product
from random import Random

from likehands.errors import HandsError, NoPattern
from likehands.machines import either, has, least_word
from likehands.patterns import machine_of
from helping import any_pattern, check_least, every_word, reads, words_up_to


def item_words(signs, mark, length):
    """The words of at most so many letters that one item stands for."""
    if mark == "":
        return [sign for sign in signs if length > 0]
    words = words_up_to("".join(signs), length)
    return words if mark == "*" else [word for word in words if word != ""]


def put_together(branches, length):
    """The words of at most so many letters that branches of items (signs, mark) stand for."""
    found = set()
    for items in branches:
        words = {""}
        for signs, mark in items:
            words = {word + more for word in words for more in item_words(signs, mark, length - len(word))}
        found |= words
    return found


class WorkedByHand(unittest.TestCase):
    def test_machines(self):
        for letters, pattern, machine in (
            ("a", "a", ("a", ((1,), (2,), (2,)), (1,))),
            ("a", "a*", every_word("a")),
            ("a", "a+", ("a", ((1,), (1,)), (1,))),
            ("ab", ".*", every_word("ab")),
            ("ab", "[ab]*", every_word("ab")),
            ("ab", "a*b", ("ab", ((0, 1), (2, 2), (2, 2)), (1,))),
            ("ab", "b", ("ab", ((1, 2), (1, 1), (1, 1)), (2,))),
            ("ab", "a*|b*", ("ab", ((1, 2), (1, 3), (3, 2), (3, 3)), (0, 1, 2))),
            ("xyz", "[xz]+y", ("xyz", ((1, 2, 1), (1, 3, 1), (2, 2, 2), (2, 2, 2)), (3,))),
        ):
            self.assertEqual(machine_of(letters, pattern), machine, pattern)

    def test_words(self):
        for pattern, good, bad in (
            ("b", ["b"], ["", "a", "c", "bb", "ba"]),
            ("b*", ["", "b", "bb", "b" * 40], ["a", "ba", "bab", "b" * 39 + "c"]),
            ("b+", ["b", "bb", "b" * 40], ["", "a", "ab", "ba"]),
            (".", ["a", "b", "c"], ["", "aa", "cb"]),
            (".*", ["", "a", "abc", "c" * 40], []),
            (".+", ["a", "abc", "c" * 40], [""]),
            ("[ac]", ["a", "c"], ["", "b", "ac", "aa"]),
            ("[ac]*", ["", "a", "c", "caac"], ["b", "ab", "cabac"]),
            ("[ac]+", ["a", "c", "caac"], ["", "b", "ab", "cabac"]),
            ("[abc]", ["a", "b", "c"], ["", "ab"]),
            ("[b]+a", ["ba", "bba"], ["a", "b", "ab", "baa"]),
            ("a|bc", ["a", "bc"], ["", "b", "c", "ac", "abc"]),
            ("ab|b*|c+", ["ab", "", "bb", "c", "cc"], ["a", "abb", "bc", "cb"]),
            ("a*a", ["a", "aa"], ["", "b"]),
            ("a*b*a*", ["", "a", "b", "aba", "abba", "ba"], ["bab", "abab", "c"]),
            ("a+a+", ["aa", "aaa"], ["", "a", "ab"]),
            ("a*a*a*a*a*a*a*a*", ["", "a" * 30], ["b"]),
            ("abcabcab", ["abcabcab"], ["", "abcabca", "abcabcabc", "bcabcabc"]),
            ("a|b|c|a|b|c|aa", ["a", "b", "c", "aa"], ["", "ab", "bb"]),
        ):
            machine = machine_of("abc", pattern)
            for word in good:
                self.assertIs(has(machine, word), True, (pattern, word))
            for word in bad:
                self.assertIs(has(machine, word), False, (pattern, word))

    def test_a_point_is_any_of_the_told_letters(self):
        for letters in ("a", "ab", "cdx", "abcde"):
            self.assertEqual(machine_of(letters, ".*"), every_word(letters))
            self.assertEqual(machine_of(letters, "."), machine_of(letters, "[" + letters + "]"))
            self.assertEqual(machine_of(letters, "."), machine_of(letters, "|".join(letters)))

    def test_more_than_thirty_signs_are_no_fault(self):
        self.assertEqual(machine_of("abcde", "|".join(["[abcde]*"] * 6)), every_word("abcde"))


class ItemByItem(unittest.TestCase):
    def check(self, letters, pattern, branches, length):
        machine = machine_of(letters, pattern)
        check_least(self, machine)
        self.assertEqual(machine[0], letters)
        words = put_together(branches, length)
        for word in words_up_to(letters, length):
            self.assertEqual(reads(machine, word), word in words, (pattern, word))
        return machine

    def test_patterns_by_chance(self):
        chance = Random(51)
        for turn in range(400):
            letters = ("a", "ab", "abc", "acxz", "abcde")[turn % 5]
            length = {1: 12, 2: 6, 3: 4, 4: 3, 5: 3}[len(letters)]
            pattern, branches = any_pattern(chance, letters, chance.randrange(1, 9))
            self.check(letters, pattern, branches, length)

    def test_eight_items(self):
        chance = Random(52)
        for turn in range(40):
            pattern, branches = any_pattern(chance, "ab", 8)
            self.check("ab", pattern, branches, 9)

    def test_thirty_signs(self):
        for pattern, branches in (
            ("[ab]*[bc]+[ac]*[ab]+|a*b+|.*.+",
             [[("ab", "*"), ("bc", "+"), ("ac", "*"), ("ab", "+")], [("a", "*"), ("b", "+")],
              [("abc", "*"), ("abc", "+")]]),
            ("[ab]*[bc]+[ac]*[ab]+[bc]*|a*b+",
             [[("ab", "*"), ("bc", "+"), ("ac", "*"), ("ab", "+"), ("bc", "*")], [("a", "*"), ("b", "+")]]),
            ("[ab]|[bc]|[ac]|[ab]+[c]*|[abc]",
             [[("ab", "")], [("bc", "")], [("ac", "")], [("ab", "+"), ("c", "*")], [("abc", "")]]),
        ):
            self.assertEqual(len(pattern), 30)
            self.check("abc", pattern, branches, 6)

    def test_many_states(self):
        machine = self.check("ab", ".*a......", [[("ab", "*"), ("a", "")] + [("ab", "")] * 6], 10)
        self.assertEqual(len(machine[1]), 128)

    def test_branches_are_put_together(self):
        chance = Random(53)
        for turn in range(60):
            one, ignored = any_pattern(chance, "abc", chance.randrange(1, 5))
            other, ignored = any_pattern(chance, "abc", chance.randrange(1, 5))
            told = machine_of("abc", one + "|" + other)
            self.assertEqual(told, either(machine_of("abc", one), machine_of("abc", other)))
            self.assertEqual(told, machine_of("abc", other + "|" + one))

    def test_all_short_texts(self):
        # Python's own patterns stand for the same words where they are ones of point 8.
        item = r"(?:[ab.]|\[(?:a|b|ab)\])[*+]?"
        form = re.compile(f"(?:{item})+(?:[|](?:{item})+)*")
        words = words_up_to("ab", 4)
        for length in range(6):
            for signs in product("ab.[]*+|", repeat=length):
                pattern = "".join(signs)
                if form.fullmatch(pattern) is None:
                    with self.assertRaises(NoPattern, msg=pattern):
                        machine_of("ab", pattern)
                    continue
                machine = machine_of("ab", pattern)
                if length > 4:
                    continue
                meant = re.compile(pattern)
                for word in words:
                    self.assertEqual(reads(machine, word), meant.fullmatch(word) is not None, (pattern, word))


class Refused(unittest.TestCase):
    def refused(self, letters, thing):
        with self.assertRaises(NoPattern, msg=repr(thing)) as caught:
            machine_of(letters, thing)
        self.assertIsInstance(caught.exception, HandsError)

    def test_texts(self):
        for text in (
            "", "|", "||", "a|", "|a", "a||b", "a|b|", "|a|b",
            "d", "A", "1", "ad", "a|d", "z*", "[d]", "[ad]", "[abcd]", "[A]",
            "[]", "a[]", "[]*", "[", "[a", "[ab", "a[b", "[a|b]", "[a|]", "[a*", "]", "a]", "[a]]", "[[a]]", "[[a]", "][",
            "[ba]", "[cab]", "[acb]", "[aa]", "[aab]", "[abb]", "[aba]", "[.]", "[a.]", "[*]", "[a*]", "[a+]", "[ ]",
            "[a b]", "[a-c]", "[^a]", "[a,b]",
            "*", "+", "*a", "+a", "|*", "a|*", "a|+b", "[*a]", "a**", "a*+", "a+*", "a++", ".**", "[a]*+", "[ab]++",
            " ", "a ", " a", "a b", "a\n", "\na", "\n", "a?", "a{2}", "(a)", "(a|b)", "^a", "a$", "a-b", "a\\", "\\.",
            "a&b", "-", "a/b", "a,b", "_", "\t", "a\x00", "\u00e9", "a\u00e9", "\uff41", "\u2217", "\ud800", "\u00aa",
        ):
            self.refused("abc", text)

    def test_a_letter_that_is_not_a_told_one(self):
        for letters in ("a", "bc", "ace", "bcde", "acegi"):
            for code in range(ord("a"), ord("z") + 1):
                sign = chr(code)
                if sign in letters:
                    self.assertEqual(least_word(machine_of(letters, sign)), sign)
                    self.assertEqual(least_word(machine_of(letters, "[" + sign + "]+")), sign)
                else:
                    self.refused(letters, sign)
                    self.refused(letters, letters[0] + sign)
                    self.refused(letters, "[" + sign + "]")
                    self.refused(letters, "[" + "".join(sorted(letters + sign)) + "]")

    def test_nine_items(self):
        for text in ("aaaaaaaaa", "a*b*a*b*a*b*a*b*a*", "a|b|a|b|a|b|a|b|a", "aaaa|bbbb|c", "........|.", ".........",
                     "[a]bcabcab[ab]", "a" * 30, "a" * 100000, "a|" * 50000 + "a", "[ab]+" * 10000):
            self.refused("abc", text)
        for text in ("aaaaaaaa", "a*b*a*b*a*b*a*b*", "a|b|a|b|a|b|a|b", "aaaa|bbbb", ".......|.", "[a]bcabca[ab]"):
            machine_of("abc", text)

    def test_long_texts_that_are_none(self):
        for text in ("[" * 100000, "]" * 100000, "*" * 100000, "|" * 100000, "[" + "a" * 100000 + "]", "a" + "*" * 9999):
            self.refused("ab", text)

    def test_things_that_are_no_text(self):
        for thing in (None, True, False, 0, 1, -5, 10 ** 40, b"a", b"", (), ("a",), ("a", "b"), [], ["a"], {}, {"a": 1},
                      {"a"}, set(), frozenset("a"), range(2), object(), str, len, ValueError("a"), iter("a"), ...,
                      re.compile("a"), machine_of("a", "a")):
            self.refused("a", thing)
            self.refused("abc", thing)


class Again(unittest.TestCase):
    def test_asked_again_the_same(self):
        for pattern in ("a*b", ".*a..", "[ab]+|b"):
            first = machine_of("ab", pattern)
            with self.assertRaises(NoPattern):
                machine_of("ab", pattern + "**")
            self.assertEqual(machine_of("ab", pattern), first)
            self.assertEqual(machine_of("ab", pattern + "|a*"), either(first, machine_of("ab", "a*")))


if __name__ == "__main__":
    unittest.main()
