import unittest
from math import comb

from likehands.machines import both, either, how_many, least, least_word, turned, words_of
from likehands.patterns import machine_of
from helping import all_words, any_machines, cycle, every_word, no_words, reads, words_up_to

# The greatest lengths of lists for one to five letters: forty, and at most 1,100 words of the letters.
LISTED = {"a": 40, "ab": 10, "abc": 6, "bdxz": 5, "abcde": 4}


class LeastWord(unittest.TestCase):
    def test_none(self):
        for letters in LISTED:
            self.assertIsNone(least_word(no_words(letters)))
        self.assertIsNone(least_word(("ab", ((0, 1), (1, 0), (2, 2)), (2,))))
        self.assertIsNone(least_word(cycle(60, ())))

    def test_the_empty_word(self):
        for letters in LISTED:
            self.assertEqual(least_word(every_word(letters)), "")

    def test_shorter_ones_go_first(self):
        self.assertEqual(least_word(machine_of("ab", "aaa|bb")), "bb")
        self.assertEqual(least_word(machine_of("ab", "ba|ab|bb")), "ab")
        self.assertEqual(least_word(machine_of("abc", "c.+|b.c*")), "ba")

    def test_against_all_short_words(self):
        for machine in any_machines(41, 200, (1, 2, 3, 4, 5)):
            words = words_up_to(machine[0], 4 if len(machine[0]) > 1 else 10)
            first = next((word for word in words if reads(machine, word)), None)
            self.assertEqual(least_word(machine), first, machine)
            self.assertEqual(least_word(least(machine)), first, machine)

    def test_long_ones(self):
        self.assertEqual(least_word(cycle(60, (59,), "xy")), "x" * 59)
        told = both(both(cycle(59), cycle(53)), cycle(6, (5,)))
        word = least_word(told)
        self.assertEqual(len(word) % (59 * 53), 0)
        self.assertEqual(len(word) % 6, 5)
        self.assertLess(len(word), 59 * 53 * 6)
        self.assertEqual(word, "a" * len(word))

    def test_it_is_a_text(self):
        self.assertIs(type(least_word(every_word("ab"))), str)
        self.assertIs(type(least_word(machine_of("ab", "ab"))), str)


class HowMany(unittest.TestCase):
    def test_length_0(self):
        for letters in LISTED:
            self.assertEqual(how_many(every_word(letters), 0), 1)
            self.assertEqual(how_many(no_words(letters), 0), 0)
        self.assertEqual(how_many(("a", ((1,), (1,)), (1,)), 0), 0)

    def test_no_word_and_all_words(self):
        for letters in LISTED:
            for length in (0, 1, 2, 17, 59, 60):
                self.assertEqual(how_many(every_word(letters), length), len(letters) ** length)
                self.assertEqual(how_many(no_words(letters), length), 0)

    def test_up_to_sixty(self):
        even = ("ab", ((1, 0), (0, 1)), (0,))
        for length in range(1, 61):
            self.assertEqual(how_many(even, length), 2 ** (length - 1))
            self.assertEqual(how_many(turned(even), length), 2 ** (length - 1))
            self.assertEqual(how_many(machine_of("abc", "a*b*c*"), length), comb(length + 2, 2))
            self.assertEqual(how_many(machine_of("ab", "a*ba*ba*"), length), comb(length, 2))
            self.assertEqual(how_many(cycle(7), length), 1 if length % 7 == 0 else 0)

    def test_both_and_either_add_up(self):
        machines = list(any_machines(42, 50, (2, 7, 60)))
        for one, other in zip(machines, machines[5:]):
            for length in (0, 1, 7, 30, 60):
                self.assertEqual(how_many(one, length) + how_many(other, length),
                                 how_many(both(one, other), length) + how_many(either(one, other), length))
                self.assertEqual(how_many(one, length) + how_many(turned(one), length), len(one[0]) ** length)

    def test_against_all_words(self):
        for machine in any_machines(43, 100, (1, 2, 3, 8, 60)):
            for length in range(5):
                many = len([word for word in all_words(machine[0], length) if reads(machine, word)])
                told = how_many(machine, length)
                self.assertEqual(told, many, (machine, length))
                self.assertIs(type(told), int)

    def test_told_machines(self):
        self.assertEqual(how_many(both(cycle(59), cycle(60)), 60), 0)
        self.assertEqual(how_many(either(cycle(59), cycle(60)), 60), 1)


class WordsOf(unittest.TestCase):
    def test_worked_by_hand(self):
        self.assertEqual(words_of(machine_of("abc", ".*a|b+[ac]*"), 2), ["aa", "ba", "bb", "bc", "ca"])
        self.assertEqual(words_of(machine_of("ab", "a*b*"), 3), ["aaa", "aab", "abb", "bbb"])
        self.assertEqual(words_of(machine_of("ab", "a*b"), 0), [])

    def test_length_0(self):
        for letters in LISTED:
            self.assertEqual(words_of(every_word(letters), 0), [""])
            self.assertEqual(words_of(no_words(letters), 0), [])

    def test_up_to_the_bounds(self):
        for letters, most in LISTED.items():
            for length in range(most + 1):
                self.assertEqual(words_of(every_word(letters), length), all_words(letters, length))
                self.assertEqual(words_of(no_words(letters), length), [])

    def test_against_all_words(self):
        for machine in any_machines(44, 100, (1, 2, 3, 8, 60)):
            most = LISTED[machine[0]]
            for length in (0, 1, 2, most - 1, most):
                words = [word for word in all_words(machine[0], length) if reads(machine, word)]
                self.assertEqual(words_of(machine, length), words, (machine, length))
                self.assertEqual(words, sorted(set(words)))

    def test_few_words_of_forty_letters(self):
        self.assertEqual(words_of(cycle(40), 40), ["a" * 40])
        self.assertEqual(words_of(cycle(39), 40), [])
        self.assertEqual(words_of(machine_of("abcde", "a*b*"), 40),
                         ["a" * (40 - many) + "b" * many for many in range(41)])

    def test_each_list_is_a_new_one(self):
        for machine in any_machines(45, 20):
            first = words_of(machine, 3)
            second = words_of(machine, 3)
            self.assertIs(type(first), list)
            self.assertIsNot(first, second)
            kept = list(first)
            first.append("zzz")
            first[0] = "no"
            self.assertEqual(second, kept)
            self.assertEqual(words_of(machine, 3), kept)
            second.clear()
            self.assertEqual(words_of(machine, 3), kept)

    def test_many_are_listed(self):
        for machine in any_machines(46, 50):
            for length in (0, 1, 4):
                self.assertEqual(len(words_of(machine, length)), how_many(machine, length))


if __name__ == "__main__":
    unittest.main()
