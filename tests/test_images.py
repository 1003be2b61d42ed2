import unittest
from random import Random

from likehands.images import before, image
from likehands.machines import both, either, has, how_many, is_machine, least, least_word, turned
from likehands.patterns import machine_of
from likehands.steps import after
from helping import (ALL_LETTERS, SHAPES, any_letters, any_machine, any_rule, any_word, check_least, cycle, disguised,
                     empty_alone, every_word, kinds_of, no_words, reads, stepped, words_up_to)

SHORT = {1: 14, 2: 7, 3: 5, 4: 4, 5: 3}


def some_letters(letters):
    """The machine of all words of one letter or more."""
    width = len(letters)
    return letters, ((1,) * width, (1,) * width), (1,)


def counting(letters, many, ends):
    """A machine that counts its first letter up to a circle of so many states and passes the others."""
    rows = tuple(((state + 1) % many,) + (state,) * (len(letters) - 1) for state in range(many))
    return letters, rows, ends


def told_pairs(seed, turns):
    """Each kind of rule in each shape, for letters of each number, so many times."""
    chance = Random(seed)
    for letters in ALL_LETTERS:
        for shape in SHAPES:
            for kind in kinds_of(shape):
                for turn in range(turns):
                    yield chance, letters, shape, any_rule(chance, letters, kind)


class Case(unittest.TestCase):
    def check(self, machine, shape, rule, comes, long_words=()):
        """Both machines, word by word, against the steps of words: of all up to some length, and of long ones."""
        letters = machine[0]
        forward, backward = image(machine, shape, rule), before(machine, shape, rule)
        for told in (forward, backward):
            check_least(self, told)
            self.assertEqual(told[0], letters)
            self.assertIs(reads(told, ""), False)
        made = {other for word in comes if reads(machine, word) for other in comes[word]}
        for word in comes:
            self.assertEqual(reads(forward, word), word in made, (machine, shape, rule, word))
            ahead = any(reads(machine, other) for other in comes[word])
            self.assertEqual(reads(backward, word), ahead, (machine, shape, rule, word))
        for word in long_words:
            self.check_long(machine, shape, rule, word, forward, backward)

    def check_long(self, machine, shape, rule, word, forward, backward):
        others = after(machine[0], shape, rule, word)
        self.assertEqual(has(backward, word), any(has(machine, other) for other in others), (machine, shape, rule, word))
        if has(machine, word):
            for other in others:
                self.assertIs(has(forward, other), True, (machine, shape, rule, word))
        if rule[0] != "call":
            origins = origins_of(machine[0], shape, rule, word)
            self.assertEqual(has(forward, word), any(has(machine, other) for other in origins),
                             (machine, shape, rule, word))


def all_after(letters, shape, rule, length):
    """For each word of at most so many letters those that come of it."""
    return {word: after(letters, shape, rule, word) for word in words_up_to(letters, length)}


def origins_of(letters, shape, rule, word):
    """The words of which a word comes by a rule of one or two hands: those hands were others."""
    found = set()
    for place in range(len(word)):
        hands = list(word)
        beside = (place + 1) % len(word)
        if rule[0] == "one" and word[place] == rule[2]:
            hands[place] = rule[1]
        elif rule[0] == "two" and (word[place], word[beside]) == rule[3:]:
            hands[place], hands[beside] = rule[1:3]
        else:
            continue
        origin = "".join(hands)
        if word in after(letters, shape, rule, origin):
            found.add(origin)
    return found


class WorkedByHand(unittest.TestCase):
    def test_one(self):
        rule = ("one", "a", "b", None)
        for shape in SHAPES:
            self.assertEqual(image(machine_of("ab", "a+"), shape, rule), machine_of("ab", "a*ba*"))
            self.assertEqual(before(machine_of("ab", "a*ba*"), shape, rule), machine_of("ab", "a+"))
            self.assertEqual(image(every_word("ab"), shape, rule), machine_of("ab", ".*b.*"))
            self.assertEqual(before(every_word("ab"), shape, rule), machine_of("ab", ".*a.*"))
            self.assertEqual(before(machine_of("ab", "b+"), shape, rule), machine_of("ab", "b*ab*"))

    def test_guards(self):
        words = machine_of("abc", "[ab]+c*")
        # One a becomes c where all at that side are b or c.
        told = image(words, "row", ("one", "a", "c", ("all", "left", "bc")))
        self.assertEqual(told, machine_of("abc", "b*c[ab]*c*"))
        told = image(words, "row", ("one", "a", "c", ("all", "right", "bc")))
        self.assertEqual(told, machine_of("abc", "[ab]*cb*c*"))
        told = image(machine_of("ab", "a+"), "row", ("one", "a", "b", ("some", "left", "a")))
        self.assertEqual(told, machine_of("ab", "a+ba*"))
        told = image(machine_of("ab", "a+"), "row", ("one", "a", "b", ("some", "right", "a")))
        self.assertEqual(told, machine_of("ab", "a*ba+"))
        for shape in SHAPES:
            told = image(machine_of("ab", "a+"), shape, ("one", "a", "b", ("some", "others", "a")))
            self.assertEqual(told, machine_of("ab", "a+ba*|a*ba+"))
            told = image(machine_of("ab", ".+"), shape, ("one", "a", "b", ("all", "others", "b")))
            self.assertEqual(told, machine_of("ab", "b+"))
            told = image(machine_of("ab", "a+"), shape, ("one", "a", "b", ("all", "others", "b")))
            self.assertEqual(told, machine_of("ab", "b"))
            told = before(machine_of("ab", "b+"), shape, ("one", "a", "b", ("some", "others", "b")))
            self.assertEqual(told, machine_of("ab", "b*ab+|b+ab*"))

    def test_two(self):
        rule = ("two", "a", "b", "b", "a")
        self.assertEqual(image(machine_of("ab", "a*b"), "row", rule), machine_of("ab", "a*ba"))
        self.assertEqual(image(machine_of("ab", "ba*"), "row", rule), no_words("ab"))
        self.assertEqual(image(machine_of("ab", "ba*"), "ring", rule), machine_of("ab", "aa*b"))
        self.assertEqual(before(machine_of("ab", "aa*b"), "ring", rule), machine_of("ab", "ba+"))
        self.assertEqual(before(machine_of("ab", "aa*b"), "row", rule), no_words("ab"))

    def test_two_in_small_rings(self):
        rule = ("two", "a", "a", "b", "c")
        self.assertEqual(image(machine_of("abc", "a"), "ring", rule), no_words("abc"))
        self.assertEqual(image(machine_of("abc", "aa"), "ring", rule), machine_of("abc", "bc|cb"))
        self.assertEqual(image(machine_of("abc", "aa"), "row", rule), machine_of("abc", "bc"))
        self.assertEqual(before(machine_of("abc", "cb"), "ring", rule), machine_of("abc", "aa"))
        self.assertEqual(before(machine_of("abc", "cb"), "row", rule), no_words("abc"))

    def test_call(self):
        rule = ("call", "a", "c", "abb")
        for shape in SHAPES:
            self.assertEqual(image(machine_of("abc", "a[bc]*"), shape, rule), machine_of("abc", "cb*"))
            self.assertEqual(before(machine_of("abc", "cb*"), shape, rule), machine_of("abc", "a[bc]*"))
            self.assertEqual(image(machine_of("abc", "[bc]+"), shape, rule), no_words("abc"))

    def test_x_and_y_one_letter(self):
        for shape in SHAPES:
            told = image(machine_of("ab", ".b*"), shape, ("one", "a", "a", None))
            self.assertEqual(told, machine_of("ab", "ab*"))
            self.assertEqual(before(machine_of("ab", ".b*"), shape, ("one", "a", "a", None)), told)


class WordByWord(Case):
    def test_few_states(self):
        for chance, letters, shape, rule in told_pairs(101, 3):
            comes = all_after(letters, shape, rule, SHORT[len(letters)])
            long_words = [any_word(chance, letters, length) for length in (9, 20, 40)]
            for many in (1, 2, 3, 5):
                self.check(any_machine(chance, letters, many), shape, rule, comes, long_words)

    def test_no_word_all_words_the_empty_word_alone(self):
        for chance, letters, shape, rule in told_pairs(102, 2):
            comes = all_after(letters, shape, rule, SHORT[len(letters)])
            long_words = [any_word(chance, letters, length) for length in (9, 40)]
            for machine in (no_words(letters), every_word(letters), empty_alone(letters), some_letters(letters)):
                self.check(machine, shape, rule, comes, long_words)
            for machine in (no_words(letters), empty_alone(letters)):
                self.assertEqual(image(machine, shape, rule), no_words(letters))
                self.assertEqual(before(machine, shape, rule), no_words(letters))
            # Whether a machine has the empty word changes nothing.
            self.assertEqual(image(every_word(letters), shape, rule), image(some_letters(letters), shape, rule))
            self.assertEqual(before(every_word(letters), shape, rule), before(some_letters(letters), shape, rule))

    def test_sixty_states(self):
        for chance, letters, shape, rule in told_pairs(103, 1):
            comes = all_after(letters, shape, rule, SHORT[len(letters)] - 1)
            long_words = [any_word(chance, letters, length) for length in (12, 25, 39, 40)]
            long_words += [letters[0] * length for length in (30, 40)]
            circle = cycle(60, (0, 7, 40), letters)
            self.check(circle, shape, rule, comes, long_words)
            for ends in ((0,), (1, 2), (20, 30, 59)):
                self.check(counting(letters, 30, tuple(end % 30 for end in ends)), shape, rule, comes, long_words)
            twins = disguised(chance, counting(letters, 28, (0, 3)))
            self.assertEqual(len(twins[1]), 59)
            self.check(twins, shape, rule, comes, long_words)

    def test_chains_of_sixty_states(self):
        for chance, letters, shape, rule in told_pairs(104, 1):
            word = any_word(chance, letters, 40)
            width = len(letters)
            rows = [tuple(at + 1 if letter == word[at] else 41 for letter in letters) for at in range(40)]
            chain = (letters, tuple(rows) + ((41,) * width,) * 2, (40,))
            forward, backward = image(chain, shape, rule), before(chain, shape, rule)
            for told in (forward, backward):
                check_least(self, told)
            self.assertEqual(how_many(forward, 40), len(stepped(letters, shape, rule, word)))
            self.assertEqual(how_many(forward, 39) + how_many(forward, 41), 0)
            for other in after(letters, shape, rule, word):
                self.assertIs(has(forward, other), True)
                self.assertIs(has(before(forward, shape, rule), word), True)
            if rule[0] != "call":
                origins = origins_of(letters, shape, rule, word)
                self.assertEqual(how_many(backward, 40), len(origins))
                for origin in origins:
                    self.assertIs(has(backward, origin), True)

    def test_by_all_lengths(self):
        # Both ways tell of the same steps: a word of one machine comes to a word of the other one or it doesn't.
        for chance, letters, shape, rule in told_pairs(105, 3):
            one = any_machine(chance, letters, chance.choice((2, 3, 4)))
            other = any_machine(chance, letters, chance.choice((2, 3, 4)))
            ahead = both(one, before(other, shape, rule))
            behind = both(image(one, shape, rule), other)
            for length in range(61):
                self.assertEqual(how_many(ahead, length) > 0, how_many(behind, length) > 0, (one, other, shape, rule))

    def test_parts_are_put_together(self):
        for chance, letters, shape, rule in told_pairs(106, 1):
            one = any_machine(chance, letters, 3)
            other = any_machine(chance, letters, 3)
            for told_by in (image, before):
                self.assertEqual(told_by(either(one, other), shape, rule),
                                 either(told_by(one, shape, rule), told_by(other, shape, rule)))

    def test_told_machines(self):
        for chance, letters, shape, rule in told_pairs(107, 1):
            machine = any_machine(chance, letters, 2)
            other = any_rule(chance, letters, chance.choice(kinds_of(shape)))
            told = image(turned(machine), shape, rule)
            comes = all_after(letters, shape, other, SHORT[len(letters)])
            self.check(told, shape, other, comes, [any_word(chance, letters, 40)])

    def test_the_machine_need_not_be_least(self):
        for chance, letters, shape, rule in told_pairs(108, 1):
            machine = any_machine(chance, letters, 4)
            twin = disguised(chance, machine)
            for told_by in (image, before):
                self.assertEqual(told_by(machine, shape, rule), told_by(twin, shape, rule))
                self.assertEqual(told_by(machine, shape, rule), told_by(least(machine), shape, rule))

    def test_nothing_handed_in_is_changed(self):
        for chance, letters, shape, rule in told_pairs(109, 1):
            machine = any_machine(chance, letters, 4)
            kept = repr((machine, rule))
            first = image(machine, shape, rule), before(machine, shape, rule)
            self.assertEqual(repr((machine, rule)), kept)
            self.assertEqual((image(machine, shape, rule), before(machine, shape, rule)), first)
            self.assertIs(is_machine(first[0]) and is_machine(first[1]), True)


class ManyStates(Case):
    def test_many_sets_of_states(self):
        # A letter so many places from behind: least machines of so many places' words, and one hand changed.
        chance = Random(112)
        for pattern in (".*a...", ".*a....."):
            machine = machine_of("ab", pattern)
            for shape in SHAPES:
                for rule in (("one", "b", "a", None), ("two", "a", "b", "b", "a"), ("call", "a", "b", "ba")):
                    forward, backward = image(machine, shape, rule), before(machine, shape, rule)
                    check_least(self, forward)
                    check_least(self, backward)
                    for turn in range(50):
                        self.check_long(machine, shape, rule, any_word(chance, "ab", 40), forward, backward)

    def test_guards_of_all_letters(self):
        # Such a guard of all holds always; such a guard of some wants a hand there.
        for letters in ALL_LETTERS:
            chance = Random(110)
            for turn in range(5):
                machine = any_machine(chance, letters, 3)
                x, y = chance.choice(letters), chance.choice(letters)
                for where in ("left", "right", "others"):
                    for told_by in (image, before):
                        self.assertEqual(told_by(machine, "row", ("one", x, y, ("all", where, letters))),
                                         told_by(machine, "row", ("one", x, y, None)))
                alone = ("one", x, y, ("some", "others", letters))
                self.assertEqual(least_word(both(image(machine, "ring", alone), machine_of(letters, "."))), None)

    def test_some_is_not_all_of_the_others(self):
        # Where not some of the hands have a letter, all have another one.
        chance = Random(111)
        for letters in ALL_LETTERS[1:]:
            for where in ("left", "right", "others"):
                some = any_letters(chance, letters[1:])
                rest = "".join(letter for letter in letters if letter not in some)
                machine = any_machine(chance, letters, 3)
                x, y = chance.choice(letters), chance.choice(letters)
                for told_by in (image, before):
                    parts = [told_by(machine, "row", ("one", x, y, (how, where, told)))
                             for how, told in (("some", some), ("all", rest))]
                    self.assertEqual(either(*parts), told_by(machine, "row", ("one", x, y, None)))


if __name__ == "__main__":
    unittest.main()
