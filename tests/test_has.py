import unittest
from random import Random

from likehands.machines import both, has, turned
from likehands.patterns import machine_of
from helping import any_machines, any_word, cycle, every_word, no_words, reads, tried_words

EVEN = ("ab", ((1, 0), (0, 1)), (0,))


class Has(unittest.TestCase):
    def test_worked_by_hand(self):
        for word in ("", "b", "aa", "abba", "bbb", "ababb" + "aa", "a" * 40):
            self.assertIs(has(EVEN, word), True, word)
        for word in ("a", "ab", "aaa", "babaa", "a" * 39):
            self.assertIs(has(EVEN, word), False, word)

    def test_the_empty_word(self):
        self.assertIs(has(every_word("a"), ""), True)
        self.assertIs(has(no_words("a"), ""), False)
        self.assertIs(has(("a", ((1,), (1,)), (1,)), ""), False)

    def test_the_letters_order_is_the_columns(self):
        machine = ("dkmxz", ((0, 1, 2, 3, 4),) * 5, (3,))
        for letter in "dkmxz":
            self.assertIs(has(machine, letter), letter == "x")

    def test_against_reading(self):
        for machine in any_machines(11, 50, (1, 2, 4, 9, 60)):
            for word in tried_words(machine[0]):
                self.assertIs(has(machine, word), reads(machine, word))

    def test_long_words_of_told_machines(self):
        told = both(cycle(59), cycle(60))
        self.assertIs(has(told, "a" * 3540), True)
        self.assertIs(has(told, "a" * 3539), False)
        self.assertIs(has(told, "a" * 3540 * 30), True)
        self.assertIs(has(turned(told), "a" * 3540 * 30), False)
        pattern = machine_of("ab", "a*b+a*")
        self.assertIs(has(pattern, "a" * 500 + "b" * 500 + "a" * 500), True)
        self.assertIs(has(pattern, "a" * 500 + "b" * 500 + "a" * 500 + "b"), False)
        chance = Random(2)
        for length in (41, 100, 999):
            word = any_word(chance, "ab", length)
            self.assertIs(has(turned(EVEN), word), word.count("a") % 2 == 1)

    def test_asked_again_the_same(self):
        for machine in any_machines(12, 10):
            for word in tried_words(machine[0])[:50]:
                self.assertIs(has(machine, word), has(machine, word))


if __name__ == "__main__":
    unittest.main()
