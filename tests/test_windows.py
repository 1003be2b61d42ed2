import unittest
from random import Random

from likehands.images import image
from likehands.machines import both, has, least_word, turned, without
from likehands.patterns import machine_of
from likehands.windows import window_machine, windows_of
from helping import (ALL_LETTERS, all_windows, any_machine, any_rule, any_word, check_least, cycle, disguised, empty_alone,
                     every_word, framed, no_words, reads, words_up_to)

SIZES = (1, 2, 3)
SHORT = {1: 12, 2: 8, 3: 6, 4: 5, 5: 4}


def window_of_some_word(window):
    """Whether a text is a window of any word: marks of beginning ahead of letters, these ahead of marks of the end."""
    body = window.lstrip("^").rstrip("$")
    return "^" not in body and "$" not in body and window not in ("^" * len(window), "$" * len(window))


def pattern_of(window):
    """The pattern of the words with a window; that of the empty word's windows is the empty text."""
    ahead = "" if window.startswith("^") else ".*"
    behind = "" if window.endswith("$") else ".*"
    return ahead + window.strip("^$") + behind


def has_window(machine, window):
    """Whether a machine has a word with a window, by the words of a pattern alone."""
    if not window_of_some_word(window):
        return False
    pattern = pattern_of(window)
    if pattern == "":
        return reads(machine, "")
    return least_word(both(machine, machine_of(machine[0], pattern))) is not None


def windows_had(machine, size):
    return [window for window in all_windows(machine[0], size) if has_window(machine, window)]


class WindowsOf(unittest.TestCase):
    def test_worked_by_hand(self):
        for pattern, size, windows in (
            ("a", 1, ["a"]),
            ("a", 2, ["^a", "a$"]),
            ("a", 3, ["^^a", "^a$", "a$$"]),
            ("abc", 1, ["a", "b", "c"]),
            ("abc", 2, ["^a", "ab", "bc", "c$"]),
            ("abc", 3, ["^^a", "^ab", "abc", "bc$", "c$$"]),
            ("ca", 1, ["a", "c"]),
            ("ca", 3, ["^^c", "^ca", "a$$", "ca$"]),
            ("a*", 1, ["a"]),
            ("a*", 2, ["^$", "^a", "a$", "aa"]),
            ("a*", 3, ["^$$", "^^$", "^^a", "^a$", "^aa", "a$$", "aa$", "aaa"]),
            ("a+", 2, ["^a", "a$", "aa"]),
            ("aaa", 3, ["^^a", "^aa", "a$$", "aa$", "aaa"]),
            ("a+b", 2, ["^a", "aa", "ab", "b$"]),
            ("a|bc", 2, ["^a", "^b", "a$", "bc", "c$"]),
            ("ab*c", 3, ["^^a", "^ab", "^ac", "abb", "abc", "ac$", "bbb", "bbc", "bc$", "c$$"]),
        ):
            self.assertEqual(windows_of(machine_of("abc", pattern), size), windows, (pattern, size))

    def test_no_word_the_empty_word_alone_all_words(self):
        for letters in ALL_LETTERS:
            for size in SIZES:
                self.assertEqual(windows_of(no_words(letters), size), [])
                self.assertEqual(windows_of((letters, ((0,) * len(letters),) * 2, (1,)), size), [])
                empty = {1: [], 2: ["^$"], 3: ["^$$", "^^$"]}[size]
                self.assertEqual(windows_of(empty_alone(letters), size), empty)
                every = [window for window in all_windows(letters, size) if window_of_some_word(window)]
                self.assertEqual(windows_of(every_word(letters), size), every)

    def test_rising_by_signs(self):
        self.assertEqual(sorted("b^a$"), ["$", "^", "a", "b"])
        told = windows_of(every_word("ab"), 3)
        self.assertEqual(told, ["^$$", "^^$", "^^a", "^^b", "^a$", "^aa", "^ab", "^b$", "^ba", "^bb",
                                "a$$", "aa$", "aaa", "aab", "ab$", "aba", "abb",
                                "b$$", "ba$", "baa", "bab", "bb$", "bba", "bbb"])

    def test_states_that_do_not_count(self):
        # By b one comes to a state from which no word ends; state 3 is never come to.
        machine = ("abc", ((0, 1, 2), (1, 1, 1), (1, 1, 1), (3, 3, 3)), (2, 3))
        self.assertEqual(windows_of(machine, 1), ["a", "c"])
        self.assertEqual(windows_of(machine, 2), ["^a", "^c", "aa", "ac", "c$"])

    def test_machines_by_chance(self):
        chance = Random(171)
        for turn in range(60):
            letters = ALL_LETTERS[turn % 5]
            machine = any_machine(chance, letters, chance.choice((1, 2, 3, 4, 5, 8)))
            for size in SIZES[:2] if turn % 3 else SIZES:
                told = windows_of(machine, size)
                self.assertIs(type(told), list)
                self.assertEqual(told, sorted(set(told)))
                self.assertEqual(told, windows_had(machine, size), (machine, size))

    def test_words_gone_through(self):
        chance = Random(172)
        for turn in range(100):
            letters = ALL_LETTERS[turn % 5]
            machine = any_machine(chance, letters, chance.choice((2, 4, 6)))
            words = [word for word in words_up_to(letters, SHORT[len(letters)]) if reads(machine, word)]
            for size in SIZES:
                gone = set().union(*[framed(word, size) for word in words])
                self.assertLessEqual(gone, set(windows_of(machine, size)))
        # Two states and two letters: no window needs a longer word than these.
        for turn in range(60):
            machine = any_machine(chance, "ab", 2)
            words = [word for word in words_up_to("ab", 8) if reads(machine, word)]
            for size in SIZES:
                gone = set().union(*[framed(word, size) for word in words])
                self.assertEqual(windows_of(machine, size), sorted(gone), (machine, size))

    def test_machines_of_one_word(self):
        chance = Random(173)
        for turn in range(100):
            letters = ALL_LETTERS[turn % 5]
            word = any_word(chance, letters, chance.randrange(1, 9))
            for size in SIZES:
                self.assertEqual(windows_of(machine_of(letters, word), size), sorted(framed(word, size)))

    def test_long_words(self):
        chance = Random(174)
        for turn in range(20):
            letters = ALL_LETTERS[turn % 5]
            word = any_word(chance, letters, 40)
            # One state behind each letter, and one for all other words.
            rows = [tuple(at + 1 if letter == sign else 41 for letter in letters) for at, sign in enumerate(word)]
            machine = (letters, (*rows, (41,) * len(letters), (41,) * len(letters)), (40,))
            for size in SIZES:
                self.assertEqual(windows_of(machine, size), sorted(framed(word, size)))

    def test_many_states(self):
        chance = Random(175)
        for letters in ALL_LETTERS:
            for machine in (cycle(60, (0, 3), letters), cycle(60, (59,), letters), any_machine(chance, letters, 60)):
                for size in SIZES[:2]:
                    self.assertEqual(windows_of(machine, size), windows_had(machine, size))
        for letters in ("ab", "abc"):
            machine = any_machine(chance, letters, 60)
            self.assertEqual(windows_of(machine, 3), windows_had(machine, 3))

    def test_told_machines(self):
        chance = Random(176)
        for letters in ALL_LETTERS:
            for machine in (turned(machine_of(letters, letters[0])),
                            image(any_machine(chance, letters, 4), "row", any_rule(chance, letters, "one"))):
                for size in SIZES[:2]:
                    self.assertEqual(windows_of(machine, size), windows_had(machine, size))
            # The words have some thousand letters, so each row of letters stands in one.
            machine = both(cycle(53, (1,), letters), cycle(59, (2,), letters))
            for size in SIZES:
                every = [window for window in windows_of(every_word(letters), size)
                         if window.strip("^$") and not (window[0] == "^" and window[-1] == "$")]
                self.assertEqual(windows_of(machine, size), every)

    def test_the_machine_need_not_be_least(self):
        chance = Random(177)
        for turn in range(30):
            machine = any_machine(chance, ALL_LETTERS[turn % 5], 3)
            for size in SIZES:
                self.assertEqual(windows_of(disguised(chance, machine), size), windows_of(machine, size))

    def test_each_list_is_the_askers_own(self):
        machine = machine_of("abc", "a+b")
        first = windows_of(machine, 2)
        second = windows_of(machine, 2)
        self.assertIsNot(first, second)
        first.clear()
        second.append("no")
        self.assertEqual(windows_of(machine, 2), ["^a", "aa", "ab", "b$"])
        empty = windows_of(no_words("a"), 1)
        empty.append("no")
        self.assertEqual(windows_of(no_words("a"), 1), [])


class WindowMachine(unittest.TestCase):
    def test_worked_by_hand(self):
        for windows, size, pattern in (
            (["a"], 1, "a*"),
            (["a", "c"], 1, "[ac]*"),
            (["a", "b", "c"], 1, ".*"),
            (["^a", "a$"], 2, "a"),
            (["^a", "aa", "a$"], 2, "a+"),
            (["^$", "^a", "aa", "a$"], 2, "a*"),
            (["^a", "aa", "ab", "bb", "b$"], 2, "a+b+"),
            (["^^a", "^ab", "ab$", "b$$"], 3, "ab"),
            (["^^a", "^ab", "abb", "bbb", "bb$", "b$$"], 3, "abb+"),
        ):
            self.assertEqual(window_machine("abc", windows, size), machine_of("abc", pattern), (windows, size))
        for windows, size, words in (
            (["^a", "ab", "ba", "b$", "^c", "c$"], 2, ["c", "ab", "abab", "ababab"]),
            (["^^$", "^$$", "^^a", "^a$", "a$$"], 3, ["", "a"]),
            (["^^a", "^aa", "^ab", "aab", "aba", "ba$", "a$$"], 3, ["aba", "aaba"]),
            (["^^a", "^ab", "aba", "bab", "ab$", "b$$"], 3, ["ab", "abab", "ababab"]),
        ):
            told = window_machine("abc", windows, size)
            self.assertEqual([word for word in words_up_to("abc", 7) if reads(told, word)], words)

    def test_of_size_one_the_empty_word_too(self):
        for letters in ALL_LETTERS:
            self.assertEqual(window_machine(letters, [], 1), empty_alone(letters))
            self.assertEqual(window_machine(letters, ["^", "$"], 1), empty_alone(letters))
            self.assertEqual(window_machine(letters, list(letters), 1), every_word(letters))
            for letter in letters:
                self.assertIs(has(window_machine(letters, [letter], 1), ""), True)

    def test_without_windows(self):
        for letters in ALL_LETTERS:
            for size in (2, 3):
                self.assertEqual(window_machine(letters, [], size), no_words(letters))
                empty = windows_of(empty_alone(letters), size)
                self.assertEqual(window_machine(letters, empty, size), empty_alone(letters))
                self.assertEqual(window_machine(letters, all_windows(letters, size), size), every_word(letters))
        self.assertEqual(window_machine("ab", ["^^$"], 3), no_words("ab"))
        self.assertEqual(window_machine("ab", ["^$$"], 3), no_words("ab"))

    def test_windows_that_no_word_has(self):
        strange = {1: ["^", "$"], 2: ["^^", "$$", "a^", "$a", "$^"],
                   3: ["^^^", "$$$", "a^b", "$ab", "ab^", "a$b", "^$a", "$^a", "a$^", "b^^"]}
        for size in SIZES:
            for word in ("", "a", "ab", "abba"):
                windows = sorted(framed(word, size))
                told = window_machine("ab", windows, size)
                self.assertEqual(window_machine("ab", strange[size] + windows, size), told)
                self.assertEqual(window_machine("ab", windows + strange[size], size), told)
            self.assertFalse([window for window in strange[size] if window_of_some_word(window)])

    def any_windows(self, chance, letters, size):
        """Some windows, most of them, in any order, some twice, with such as no word has."""
        windows = [window for window in all_windows(letters, size) if chance.randrange(5) > 0]
        windows += chance.sample(windows, len(windows) // 2)
        chance.shuffle(windows)
        return windows

    def check(self, letters, windows, size, long_words):
        kept = list(windows)
        told = window_machine(letters, windows, size)
        self.assertEqual(windows, kept)
        check_least(self, told)
        self.assertEqual(told[0], letters)
        known = set(windows)
        for word in words_up_to(letters, SHORT[len(letters)]):
            self.assertEqual(reads(told, word), framed(word, size) <= known, (windows, size, word))
        for word in long_words:
            self.assertEqual(has(told, word), framed(word, size) <= known, (windows, size, word))
        return told

    def test_lists_by_chance(self):
        chance = Random(181)
        for turn in range(50):
            letters = ALL_LETTERS[turn % 5]
            for size in SIZES:
                windows = self.any_windows(chance, letters, size)
                self.check(letters, windows, size, [any_word(chance, letters, 12), any_word(chance, letters[:2], 40)])

    def test_windows_of_long_words(self):
        chance = Random(182)
        for turn in range(25):
            letters = ALL_LETTERS[turn % 5]
            for size in SIZES:
                # Words in which letters stay for a while, so that not all windows are of them.
                word = "".join(letter * chance.randrange(1, 6) for letter in any_word(chance, letters, 20))[:40]
                windows = list(framed(word, size))
                others = [word[::-1], word[20:] + word[:20], word[:-1] + letters[0], word[::2], word[:20], word[1:]]
                told = self.check(letters, windows, size, others)
                self.assertIs(has(told, word), True)
                for at in range(len(windows)):
                    lacking = window_machine(letters, windows[:at] + windows[at + 1:], size)
                    self.assertIs(has(lacking, word), False)

    def test_any_order_and_twice(self):
        chance = Random(183)
        for turn in range(30):
            letters = ALL_LETTERS[turn % 5]
            for size in SIZES:
                windows = self.any_windows(chance, letters, size)
                told = window_machine(letters, windows, size)
                self.assertEqual(window_machine(letters, sorted(set(windows)), size), told)
                self.assertEqual(window_machine(letters, windows[::-1] + windows, size), told)

    def test_windows_of_the_machine_lie_in_the_list(self):
        chance = Random(184)
        fewer = 0
        for turn in range(30):
            letters = ALL_LETTERS[turn % 5]
            for size in SIZES:
                windows = [window for window in self.any_windows(chance, letters, size) if chance.randrange(2)]
                back = windows_of(window_machine(letters, windows, size), size)
                self.assertLessEqual(set(back), set(windows))
                fewer += len(back) < len(set(windows))
        self.assertGreater(fewer, 20)

    def test_a_machines_words_are_in_the_machine_of_its_windows(self):
        chance = Random(185)
        for turn in range(100):
            letters = ALL_LETTERS[turn % 5]
            machine = any_machine(chance, letters, chance.choice((2, 3, 6, 60)))
            for size in SIZES:
                windows = windows_of(machine, size)
                told = window_machine(letters, windows, size)
                self.assertIsNone(least_word(without(machine, told)))
                self.assertEqual(windows_of(told, size), windows)

    def test_what_becomes_of_the_list_later(self):
        windows = ["^a", "ab", "b$"]
        told = window_machine("ab", windows, 2)
        kept = repr(told)
        windows.clear()
        self.assertEqual(repr(told), kept)
        self.assertEqual(window_machine("ab", ["^a", "ab", "b$"], 2), told)
        self.assertEqual(window_machine("ab", windows, 2), no_words("ab"))


if __name__ == "__main__":
    unittest.main()
