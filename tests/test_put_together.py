import unittest
from random import Random

from likehands.machines import both, either, least, least_word, turned, without
from likehands.patterns import machine_of
from helping import (any_machine, any_machines, any_pairs, check_kinds, check_least, cycle, disguised, every_word,
                     no_words, reads, tried_words)

WAYS = (
    (both, lambda one, other: one and other),
    (either, lambda one, other: one or other),
    (without, lambda one, other: one and not other),
)
ALL_LETTERS = ("a", "z", "ab", "cx", "abc", "bdfg", "abcde")


def chain(letters, length):
    """A machine of just the words of a length; none else of these has so few states."""
    width = len(letters)
    rows = tuple((min(state + 1, length + 1),) * width for state in range(length + 2))
    return letters, rows, (length,)


class WorkedByHand(unittest.TestCase):
    # Words with an even number of a, and words that end with b.
    even = ("ab", ((1, 0), (0, 1)), (0,))
    ends_b = ("ab", ((0, 1), (0, 1)), (1,))

    def test_both(self):
        self.assertEqual(both(self.even, self.ends_b), ("ab", ((1, 2), (0, 1), (1, 2)), (2,)))

    def test_either(self):
        self.assertEqual(either(self.even, self.ends_b), ("ab", ((1, 0), (0, 2), (0, 2)), (0, 2)))

    def test_without(self):
        self.assertEqual(without(self.even, self.ends_b), ("ab", ((1, 2), (0, 1), (1, 2)), (0,)))

    def test_turned(self):
        self.assertEqual(turned(self.even), ("ab", ((1, 0), (0, 1)), (1,)))
        self.assertEqual(turned(self.ends_b), ("ab", ((0, 1), (0, 1)), (0,)))

    def test_least(self):
        # State 1 is never come to, 2 and 3 have the same words ahead.
        self.assertEqual(least(("ab", ((2, 4), (0, 0), (4, 0), (4, 0), (4, 4)), (1, 4))),
                         ("ab", ((1, 2), (2, 0), (2, 2)), (2,)))

    def test_numbered_by_the_first_words(self):
        # From 0 come, by a, b and c: 3, 1, 2.
        given = ("abc", ((3, 1, 2), (1, 1, 0), (2, 3, 2), (0, 3, 3)), (1, 2))
        self.assertEqual(least(given), ("abc", ((1, 2, 3), (0, 1, 1), (2, 2, 0), (3, 1, 3)), (2, 3)))


class WordByWord(unittest.TestCase):
    def check_pair(self, one, other):
        words = tried_words(one[0])
        for told_by, holds in WAYS:
            told = told_by(one, other)
            check_least(self, told)
            self.assertEqual(told[0], one[0])
            for word in words:
                self.assertEqual(reads(told, word), holds(reads(one, word), reads(other, word)), (one, other, word))

    def check_one(self, machine):
        same, opposite = least(machine), turned(machine)
        for told in (same, opposite):
            check_least(self, told)
            self.assertEqual(told[0], machine[0])
        for word in tried_words(machine[0]):
            self.assertEqual(reads(same, word), reads(machine, word), (machine, word))
            self.assertEqual(reads(opposite, word), not reads(machine, word), (machine, word))

    def test_pairs(self):
        for one, other in any_pairs(21, 100):
            self.check_pair(one, other)

    def test_pairs_of_sixty_states(self):
        for one, other in any_pairs(22, 5, (60,)):
            for told_by, holds in WAYS:
                told = told_by(one, other)
                check_least(self, told)
                for word in tried_words(one[0]):
                    self.assertEqual(reads(told, word), holds(reads(one, word), reads(other, word)))

    def test_one(self):
        for machine in any_machines(23, 150, (1, 2, 3, 5, 8, 20, 60)):
            self.check_one(machine)

    def test_states_never_come_to(self):
        chance = Random(24)
        for letters in ALL_LETTERS:
            start = any_machine(chance, letters, 6)
            apart = any_machine(chance, letters, 54)
            table = start[1] + apart[1]
            given = (letters, table, start[2] + tuple(range(6, 60, 2)))
            self.assertEqual(least(given), least(start))
            self.assertEqual(turned(given), turned(start))
            self.check_pair(given, any_machine(chance, letters, 4))

    def test_no_word_and_all_words(self):
        chance = Random(25)
        for letters in ALL_LETTERS:
            none, every = no_words(letters), every_word(letters)
            self.assertEqual(least(none), none)
            self.assertEqual(least(every), every)
            self.assertEqual(turned(none), every)
            self.assertEqual(turned(every), none)
            for many in (1, 2, 7, 60):
                machine = any_machine(chance, letters, many)
                bare = (letters, machine[1], ())
                full = (letters, machine[1], tuple(range(many)))
                self.assertEqual(least(bare), none)
                self.assertEqual(least(full), every)
                self.assertEqual(turned(bare), every)
                self.assertEqual(turned(full), none)
                self.assertEqual(both(machine, bare), none)
                self.assertEqual(both(machine, full), least(machine))
                self.assertEqual(either(machine, bare), least(machine))
                self.assertEqual(either(machine, full), every)
                self.assertEqual(without(machine, bare), least(machine))
                self.assertEqual(without(machine, full), none)
                self.assertEqual(without(full, machine), turned(machine))
                self.assertEqual(without(machine, machine), none)

    def test_one_state(self):
        for letters in ALL_LETTERS:
            for one in (no_words(letters), every_word(letters)):
                self.check_one(one)
                for other in (no_words(letters), every_word(letters)):
                    self.check_pair(one, other)


class TheSameTuple(unittest.TestCase):
    def test_unlike_ways_to_the_same_words(self):
        for one, other in any_pairs(31, 150):
            self.assertEqual(either(one, other), turned(both(turned(one), turned(other))))
            self.assertEqual(both(one, other), turned(either(turned(one), turned(other))))
            self.assertEqual(without(one, other), both(one, turned(other)))
            self.assertEqual(both(one, other), both(other, one))
            self.assertEqual(either(one, other), either(other, one))
            self.assertEqual(either(without(one, other), both(one, other)), least(one))
            self.assertEqual(without(one, without(one, other)), both(one, other))
            self.assertEqual(turned(turned(one)), least(one))
            self.assertEqual(least(least(one)), least(one))
            self.assertEqual(both(one, one), least(one))
            self.assertEqual(either(one, one), least(one))

    def test_three(self):
        chance = Random(32)
        for one, other in any_pairs(32, 40):
            third = any_machine(chance, one[0], 3)
            self.assertEqual(both(one, both(other, third)), both(both(one, other), third))
            self.assertEqual(either(one, either(other, third)), either(either(one, other), third))
            self.assertEqual(both(one, either(other, third)), either(both(one, other), both(one, third)))

    def test_disguised(self):
        chance = Random(33)
        for machine in any_machines(33, 100, (1, 2, 4, 8, 27)):
            self.assertEqual(least(disguised(chance, machine)), least(machine))
            self.assertEqual(turned(disguised(chance, machine)), turned(machine))
            other = any_machine(chance, machine[0], 3)
            self.assertEqual(both(disguised(chance, machine), disguised(chance, other)), both(machine, other))

    def test_only_of_the_same_words(self):
        for one, other in any_pairs(34, 300, (1, 2, 3)):
            differ = either(without(one, other), without(other, one))
            self.assertEqual(least(one) == least(other), least_word(differ) is None)

    def test_patterns(self):
        words = machine_of("ab", "a*b*")
        self.assertEqual(either(machine_of("ab", "a*b+"), machine_of("ab", "a*")), words)
        self.assertEqual(both(words, machine_of("ab", "b*a*")), machine_of("ab", "a*|b*"))
        self.assertEqual(without(machine_of("ab", ".*"), machine_of("ab", ".+")),
                         both(machine_of("ab", "a*"), machine_of("ab", "b*")))

    def test_asked_again_the_same(self):
        for one, other in any_pairs(35, 20):
            for told_by, holds in WAYS:
                self.assertEqual(told_by(one, other), told_by(one, other))
            self.assertEqual(least(one), least(one))
            self.assertEqual(turned(one), turned(one))


class Large(unittest.TestCase):
    """Up to the twenty thousand states of point 2; each is told within seconds."""

    def same(self, told, machine):
        # Not by assertEqual: to show how tuples of thousands of rows differ takes ages.
        self.assertTrue(told == machine)

    def test_sixty_states(self):
        for letters in ALL_LETTERS:
            given = chain(letters, 58)
            self.assertEqual(least(given), given)
            self.assertEqual(turned(turned(given)), given)
            self.assertEqual(least(cycle(60, (59,), letters)), cycle(60, (59,), letters))
            self.assertEqual(least(cycle(60, (0, 20, 40), letters)), cycle(20, (0,), letters))

    def test_all_pairs_of_sixty_states(self):
        self.same(both(cycle(59, (0,), "ab"), cycle(60, (0,), "ab")), cycle(3540, (0,), "ab"))
        told = either(cycle(59), cycle(60))
        check_kinds(self, told)
        self.assertEqual(len(told[1]), 3540)
        self.assertEqual(len(told[2]), 59 + 60 - 1)

    def test_told_machines_handed_in(self):
        told = both(both(cycle(59), cycle(53)), cycle(6))
        self.same(told, cycle(18762))
        self.same(turned(turned(told)), told)
        self.same(least(told), told)
        self.same(without(cycle(6), without(cycle(6), told)), told)

    def test_pairs_that_come_to_few_states(self):
        told = both(both(cycle(59), cycle(53)), cycle(6, (), "a"))
        self.assertEqual(told, no_words("a"))

    def test_a_grid(self):
        # As many a as 130 goes into, as many b as 140 goes into: 18200 pairs of told machines.
        def counts(letter_column, many):
            rows = [[state, state, state] for state in range(many)]
            for state in range(many):
                rows[state][letter_column] = (state + 1) % many
            return "abc", tuple(map(tuple, rows)), (0,)
        told = both(both(counts(0, 13), counts(0, 10)), both(counts(1, 35), counts(1, 4)))
        self.assertEqual(len(told[1]), 130 * 140)
        self.assertEqual(told[2], (0,))
        check_kinds(self, told)
        self.assertTrue(reads(told, "ab" * 13 * 140))
        self.assertTrue(reads(told, "abc" * 13 * 140 + "b" * 140))
        self.assertFalse(reads(told, "ab" * 13 * 140 + "b" * 139))
        self.same(least(told), told)


if __name__ == "__main__":
    unittest.main()
