import unittest
from random import Random

from likehands.counts import least_of, most_of, with_both
from likehands.images import image
from likehands.machines import both, either, least_word, turned
from likehands.patterns import machine_of
from helping import (ALL_LETTERS, any_machine, any_rule, any_word, cycle, disguised, empty_alone, every_word, no_words,
                     reads, words_up_to)

SHORT = {1: 12, 2: 8, 3: 6, 4: 5, 5: 4}
EVER = ("ever more",)


def any_sparse_machine(chance, letters, many):
    """A machine by chance in which many ways lead to a state from which no word ends, so that counts are often bounded."""
    table = [tuple(chance.choice((chance.randrange(many), many, many)) for _ in letters) for _ in range(many)]
    ends = tuple(state for state in range(many) if chance.randrange(2))
    return letters, (*table, (many,) * len(letters)), ends


def just_so_many(letters, letter, number):
    """The machine of the words with just so many of a letter."""
    table = [tuple(state + 1 if sign == letter else state for sign in letters) for state in range(number + 1)]
    return letters, (*table, (number + 1,) * len(letters)), (number,)


def so_many_or_more(letters, letter, number):
    """The machine of the words with so many of a letter or more."""
    table = [tuple(min(state + (sign == letter), number) for sign in letters) for state in range(number + 1)]
    return letters, tuple(table), (number,)


def line_of(letters, word):
    """The machine of one word, with a state behind each letter."""
    lost = len(word) + 1
    table = [tuple(at + 1 if letter == sign else lost for letter in letters) for at, sign in enumerate(word)]
    return letters, (*table, (lost,) * len(letters), (lost,) * len(letters)), (len(word),)


def by_machines(machine, letter, numbers):
    """The first of some numbers of a letter that a word of a machine has, with the least such word; or None."""
    for number in numbers:
        word = least_word(both(machine, just_so_many(machine[0], letter, number)))
        if word is not None:
            return number, word
    return None


def most_by_machines(machine, letter):
    """What most_of tells: with more of a letter than there are states a word goes round with that letter."""
    many = len(machine[1])
    if least_word(both(machine, so_many_or_more(machine[0], letter, many))) is not None:
        return EVER
    return by_machines(machine, letter, range(many - 1, -1, -1))


class Counts(unittest.TestCase):
    def test_worked_by_hand(self):
        for pattern, letter, most, least in (
            ("a", "a", (1, "a"), (1, "a")),
            ("a", "b", (0, "a"), (0, "a")),
            ("aba", "a", (2, "aba"), (2, "aba")),
            ("a+", "a", EVER, (1, "a")),
            ("a*", "a", EVER, (0, "")),
            ("b*ab*", "a", (1, "a"), (1, "a")),
            ("b*ab*", "b", EVER, (0, "a")),
            ("b*ab*a", "a", (2, "aa"), (2, "aa")),
            ("c|ab|aab", "a", (2, "aab"), (0, "c")),
            ("ba|ab|c", "a", (1, "ab"), (0, "c")),
            ("bb|cc", "a", (0, "bb"), (0, "bb")),
            ("aac|bab+", "a", (2, "aac"), (1, "bab")),
            ("[ab][ab]c*", "a", (2, "aa"), (0, "bb")),
            ("[ab]+c", "c", (1, "ac"), (1, "ac")),
            (".*c.*", "c", EVER, (1, "c")),
            ("a+bc|b", "a", EVER, (0, "b")),
        ):
            machine = machine_of("abc", pattern)
            self.assertEqual(most_of(machine, letter), most, (pattern, letter))
            self.assertEqual(least_of(machine, letter), least, (pattern, letter))

    def test_no_word(self):
        for letters in ALL_LETTERS:
            for letter in letters:
                # Also with rounds that are never come to, or from which no word ends.
                for machine in (no_words(letters), (letters, ((0,) * len(letters),) * 2, (1,)),
                                (letters, ((1,) * len(letters), (1,) * len(letters), (2,) * len(letters)), (2,))):
                    self.assertIsNone(most_of(machine, letter))
                    self.assertIsNone(least_of(machine, letter))

    def test_the_empty_word_alone_and_all_words(self):
        for letters in ALL_LETTERS:
            for letter in letters:
                self.assertEqual(most_of(empty_alone(letters), letter), (0, ""))
                self.assertEqual(least_of(empty_alone(letters), letter), (0, ""))
                self.assertEqual(most_of(every_word(letters), letter), EVER)
                self.assertEqual(least_of(every_word(letters), letter), (0, ""))

    def test_kinds_of_values(self):
        for machine in (machine_of("ab", "ab|b"), machine_of("ab", "a*")):
            for told in (most_of(machine, "a"), least_of(machine, "a")):
                self.assertIs(type(told), tuple)
                if told != EVER:
                    self.assertIs(type(told[0]), int)
                    self.assertIs(type(told[1]), str)
                    self.assertEqual(len(told), 2)

    def test_rounds_that_do_not_count(self):
        # State 1 goes round by a, but no word ends from there; state 3 is never come to.
        machine = ("ab", ((1, 2), (1, 1), (1, 2), (3, 3)), (2, 3))
        self.assertEqual(most_of(machine, "a"), (0, "b"))
        self.assertEqual(most_of(machine, "b"), EVER)

    def test_a_way_round_of_several_letters(self):
        # Of the letters of a round there are ever more, of those between rounds not.
        machine = machine_of("abc", "[ab]*c[ab]*c")
        self.assertEqual(most_of(machine, "c"), (2, "cc"))
        self.assertEqual(most_of(machine, "a"), EVER)
        machine = ("abc", ((1, 3, 3), (3, 0, 2), (3, 3, 3), (3, 3, 3)), (2,))
        self.assertEqual(most_of(machine, "a"), EVER)
        self.assertEqual(most_of(machine, "b"), EVER)
        self.assertEqual(most_of(machine, "c"), (1, "ac"))
        self.assertEqual(least_of(machine, "a"), (1, "ac"))

    def test_words_gone_through(self):
        chance = Random(241)
        bounded = 0
        for turn in range(600):
            letters = ALL_LETTERS[turn % 5]
            # Of few states, so that no counted word needs more letters than those gone through.
            machine = any_sparse_machine(chance, letters, min(4, SHORT[len(letters)]))
            words = [word for word in words_up_to(letters, SHORT[len(letters)]) if reads(machine, word)]
            for letter in letters:
                most = most_of(machine, letter)
                least = least_of(machine, letter)
                if not words:
                    self.assertEqual((most, least), (None, None))
                    continue
                counts = [word.count(letter) for word in words]
                number = min(counts)
                self.assertEqual(least, (number, words[counts.index(number)]), (machine, letter))
                if most != EVER:
                    bounded += 1
                    number = max(counts)
                    self.assertEqual(most, (number, words[counts.index(number)]), (machine, letter))
        self.assertGreater(bounded, 200)

    def test_machines_by_chance(self):
        chance = Random(242)
        answers = []
        for turn in range(500):
            letters = ALL_LETTERS[turn % 5]
            many = chance.choice((2, 4, 6, 9))
            machine = (any_sparse_machine if turn % 4 else any_machine)(chance, letters, many)
            for letter in letters:
                most = most_by_machines(machine, letter)
                self.assertEqual(most_of(machine, letter), most, (machine, letter))
                self.assertEqual(least_of(machine, letter), by_machines(machine, letter, range(len(machine[1]))))
                answers.append(most if most in (None, EVER) else min(most[0], 2))
        for answer in (None, EVER, 0, 1, 2):
            self.assertGreater(answers.count(answer), 10, answer)

    def test_sixty_states(self):
        chance = Random(243)
        for letters in ALL_LETTERS:
            word = any_word(chance, letters, 58)
            machine = line_of(letters, word)
            self.assertEqual(len(machine[1]), 60)
            for letter in letters:
                self.assertEqual(most_of(machine, letter), (word.count(letter), word))
                self.assertEqual(least_of(machine, letter), (word.count(letter), word))
                self.assertEqual(most_of(cycle(60, (59,), letters), letter), EVER)
            self.assertEqual(least_of(cycle(60, (59,), letters), letters[0]),
                             (0, letters[1] * 59) if len(letters) > 1 else (59, "a" * 59))
            machine = any_machine(chance, letters, 60)
            for letter in letters:
                self.assertEqual(least_of(machine, letter), by_machines(machine, letter, range(60)))
                self.assertEqual(most_of(machine, letter), most_by_machines(machine, letter))

    def test_rounds_one_behind_the_other(self):
        # At each of thirty states one goes round by b, and by a on to the next one.
        table = [(state + 1, state) for state in range(30)] + [(31, 30), (31, 31)]
        machine = ("ab", tuple(table), (30,))
        self.assertEqual(most_of(machine, "a"), (30, "a" * 30))
        self.assertEqual(least_of(machine, "a"), (30, "a" * 30))
        self.assertEqual(most_of(machine, "b"), EVER)
        machine = ("ab", tuple(table), (4, 9, 30))
        self.assertEqual(most_of(machine, "a"), (30, "a" * 30))
        self.assertEqual(least_of(machine, "a"), (4, "a" * 4))

    def test_told_machines(self):
        chance = Random(244)
        # Machines of some thousand states that were told here.
        mod = ("ab", tuple(((state + 1) % 59, state) for state in range(59)), (3,))
        other = ("ab", tuple((state, (state + 1) % 53) for state in range(53)), (2,))
        machine = both(mod, other)
        self.assertGreater(len(machine[1]), 3000)
        self.assertEqual(most_of(machine, "a"), EVER)
        self.assertEqual(least_of(machine, "a"), (3, "aaabb"))
        self.assertEqual(least_of(machine, "b"), (2, "aaabb"))
        for letters in ALL_LETTERS:
            for told in (turned(machine_of(letters, ".*" + letters[0])),
                         image(any_machine(chance, letters, 4), "row", any_rule(chance, letters, "one"))):
                for letter in letters:
                    self.assertEqual(most_of(told, letter), most_by_machines(told, letter))
                    self.assertEqual(least_of(told, letter), by_machines(told, letter, range(len(told[1]))))

    def test_long_words(self):
        # Much longer words than are handed in otherwise: a line of some thousand states.
        word = "ab" * 2000 + "b"
        machine = line_of("ab", word)
        self.assertEqual(most_of(machine, "a"), (2000, word))
        self.assertEqual(least_of(machine, "b"), (2001, word))

    def test_the_machine_need_not_be_least(self):
        chance = Random(245)
        for turn in range(60):
            machine = any_sparse_machine(chance, ALL_LETTERS[turn % 5], 4)
            other = disguised(chance, machine)
            for letter in machine[0]:
                self.assertEqual(most_of(other, letter), most_of(machine, letter))
                self.assertEqual(least_of(other, letter), least_of(machine, letter))


class WithBoth(unittest.TestCase):
    def test_worked_by_hand(self):
        for pattern, one, other, word in (
            ("ab", "a", "b", "ab"),
            ("ba", "a", "b", "ba"),
            ("a+|b+", "a", "b", None),
            ("a+|b+|c", "a", "c", None),
            (".*", "a", "b", "ab"),
            (".*", "b", "c", "bc"),
            ("..c*", "a", "c", "ac"),
            ("aac*|b.a", "a", "c", "aac"),
            ("b[ac]+|cb", "b", "c", "bc"),
            ("ba|aab", "a", "b", "ba"),
            ("c+a|acb", "a", "b", "acb"),
        ):
            machine = machine_of("abc", pattern)
            self.assertEqual(with_both(machine, one, other), word, (pattern, one, other))
            self.assertEqual(with_both(machine, other, one), word, (pattern, one, other))

    def test_no_word_and_the_empty_word_alone(self):
        for letters in ALL_LETTERS[1:]:
            for machine in (no_words(letters), empty_alone(letters), machine_of(letters, letters[0] + "*")):
                self.assertIsNone(with_both(machine, letters[0], letters[-1]))
                self.assertIsNone(with_both(machine, letters[-1], letters[0]))
            self.assertEqual(with_both(every_word(letters), letters[-1], letters[0]), letters[0] + letters[-1])

    def test_words_longer_than_there_are_states(self):
        # Five places in a ring: at one of them a hand goes on by b or c, at the others by a; so it goes round twice.
        table = [(1, 5, 5), (2, 5, 5), (5, 3, 3), (4, 5, 5), (0, 5, 5), (5, 5, 5)]
        machine = ("abc", tuple(table), (0,))
        self.assertEqual(with_both(machine, "b", "c"), "aabaaaacaa")
        self.assertEqual(with_both(machine, "c", "b"), "aabaaaacaa")
        self.assertEqual(with_both(machine, "c", "a"), "aacaa")

    def test_words_gone_through(self):
        chance = Random(251)
        nones = 0
        found = 0
        for turn in range(400):
            letters = ALL_LETTERS[1 + turn % 4]
            machine = any_sparse_machine(chance, letters, 2)
            words = [word for word in words_up_to(letters, SHORT[len(letters)]) if reads(machine, word)]
            one, other = chance.sample(letters, 2)
            meant = next((word for word in words if one in word and other in word), None)
            told = with_both(machine, one, other)
            self.assertEqual(told, meant, (machine, one, other))
            self.assertEqual(with_both(machine, other, one), told)
            nones += told is None
            found += told is not None
        self.assertGreater(nones, 40)
        self.assertGreater(found, 40)

    def test_sixty_states(self):
        chance = Random(252)
        for letters in ALL_LETTERS[1:]:
            one, other = letters[0], letters[-1]
            self.assertEqual(with_both(cycle(60, (59,), letters), one, other), one * 58 + other)
            self.assertEqual(with_both(cycle(60, (0,), letters), other, one), one * 59 + other)
            machine = any_machine(chance, letters, 60)
            mixed = either(machine_of(letters, f".*{one}.*{other}.*"), machine_of(letters, f".*{other}.*{one}.*"))
            self.assertEqual(with_both(machine, one, other), least_word(both(machine, mixed)))


if __name__ == "__main__":
    unittest.main()
