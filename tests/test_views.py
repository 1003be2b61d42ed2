import unittest
from random import Random

from likehands.images import image
from likehands.machines import both, has, least_word, turned, without
from likehands.patterns import machine_of
from likehands.views import view_machine, views_of
from helping import (ALL_LETTERS, any_machine, any_rule, any_word, by_order, check_least, cycle, disguised, empty_alone,
                     every_word, no_words, reads, struck, words_up_to)

SHORT = {1: 12, 2: 7, 3: 5, 4: 4, 5: 3}


def sizes_of(letters):
    return (1, 2, 3) if len(letters) <= 3 else (1, 2)


def has_view(machine, view):
    """Whether a machine has a word with a view: one with these letters in this order, and any others between."""
    pattern = ".*" + "".join(letter + ".*" for letter in view)
    return least_word(both(machine, machine_of(machine[0], pattern))) is not None


class ViewsOf(unittest.TestCase):
    def test_worked_by_hand(self):
        for pattern, size, views in (
            ("a", 1, ["", "a"]),
            ("abc", 1, ["", "a", "b", "c"]),
            ("abc", 2, ["", "a", "b", "c", "ab", "ac", "bc"]),
            ("abc", 3, ["", "a", "b", "c", "ab", "ac", "bc", "abc"]),
            ("ca", 3, ["", "a", "c", "ca"]),
            ("a+", 2, ["", "a", "aa"]),
            ("a+", 3, ["", "a", "aa", "aaa"]),
            ("aab", 2, ["", "a", "b", "aa", "ab"]),
            ("a*b", 3, ["", "a", "b", "aa", "ab", "aaa", "aab"]),
            ("a|bc", 2, ["", "a", "b", "c", "bc"]),
            ("[ac]+", 2, ["", "a", "c", "aa", "ac", "ca", "cc"]),
        ):
            self.assertEqual(views_of(machine_of("abc", pattern), size), views, (pattern, size))

    def test_no_word_the_empty_word_alone_all_words(self):
        for letters in ALL_LETTERS:
            for size in sizes_of(letters):
                self.assertEqual(views_of(no_words(letters), size), [])
                self.assertEqual(views_of((letters, ((0,) * len(letters),) * 2, (1,)), size), [])
                self.assertEqual(views_of(empty_alone(letters), size), [""])
                self.assertEqual(views_of(every_word(letters), size), words_up_to(letters, size))

    def test_states_that_do_not_count(self):
        # By b one comes to a state from which no word ends; state 3 is never come to.
        machine = ("abc", ((0, 1, 2), (1, 1, 1), (1, 1, 1), (3, 3, 3)), (2, 3))
        self.assertEqual(views_of(machine, 2), ["", "a", "c", "aa", "ac"])

    def test_machines_by_chance(self):
        chance = Random(141)
        for turn in range(150):
            letters = ALL_LETTERS[turn % 5]
            machine = any_machine(chance, letters, chance.choice((1, 2, 3, 4, 5, 6)))
            for size in sizes_of(letters):
                told = views_of(machine, size)
                self.assertIs(type(told), list)
                views = [view for view in words_up_to(letters, size) if has_view(machine, view)]
                self.assertEqual(told, views, (machine, size))
                self.assertEqual(told, sorted(set(told), key=by_order))

    def test_words_struck_out(self):
        chance = Random(142)
        for turn in range(100):
            letters = ALL_LETTERS[turn % 5]
            machine = any_machine(chance, letters, chance.choice((2, 4, 6)))
            words = [word for word in words_up_to(letters, SHORT[len(letters)]) if reads(machine, word)]
            for size in sizes_of(letters):
                told = views_of(machine, size)
                for word in words:
                    self.assertLessEqual(struck(word, size), set(told))

    def test_few_words_struck_out(self):
        chance = Random(143)
        for turn in range(100):
            letters = ALL_LETTERS[turn % 5]
            word = any_word(chance, letters, chance.randrange(1, 9))
            for size in sizes_of(letters):
                views = sorted(struck(word, size), key=by_order)
                self.assertEqual(views_of(machine_of(letters, word), size), views)

    def test_told_machines(self):
        chance = Random(144)
        for letters in ALL_LETTERS:
            for machine in (cycle(60, (0, 3), letters), turned(machine_of(letters, letters[0])),
                            image(any_machine(chance, letters, 4), "row", any_rule(chance, letters, "one"))):
                for size in sizes_of(letters):
                    views = [view for view in words_up_to(letters, size) if has_view(machine, view)]
                    self.assertEqual(views_of(machine, size), views)
            # The words have some thousand letters, so all views are of one.
            machine = both(cycle(53, (1,), letters), cycle(59, (2,), letters))
            for size in sizes_of(letters):
                self.assertEqual(views_of(machine, size), words_up_to(letters, size))

    def test_the_machine_need_not_be_least(self):
        chance = Random(145)
        for turn in range(30):
            machine = any_machine(chance, ALL_LETTERS[turn % 5], 3)
            self.assertEqual(views_of(disguised(chance, machine), 2), views_of(machine, 2))

    def test_each_list_is_the_askers_own(self):
        machine = machine_of("abc", "a+b")
        first = views_of(machine, 2)
        second = views_of(machine, 2)
        self.assertIsNot(first, second)
        first.clear()
        second.append("no")
        self.assertEqual(views_of(machine, 2), ["", "a", "b", "aa", "ab"])
        empty = views_of(no_words("a"), 1)
        empty.append("no")
        self.assertEqual(views_of(no_words("a"), 1), [])


class ViewMachine(unittest.TestCase):
    def test_worked_by_hand(self):
        for views, size, pattern in (
            (["", "a"], 1, "a*"),
            (["", "a", "aa"], 2, "a*"),
            (["", "a", "aa", "aaa"], 3, "a*"),
            (["", "a", "b"], 1, "[ab]*"),
            (["", "a", "b", "c"], 1, ".*"),
            (["", "a", "b", "aa", "ab"], 2, "a*|a*b"),
            (["", "a", "b", "aa", "ab", "bb"], 2, "a*b*"),
            (["", "a", "b", "aa", "ab", "ba", "aaa", "aab", "aba", "baa"], 3, "a*|a*ba*"),
        ):
            self.assertEqual(view_machine("abc", views, size), machine_of("abc", pattern), (views, size))

    def test_few_words(self):
        for views, size in ((["", "a"], 2), (["", "b", "c", "cb"], 2), (["", "b", "c", "bb", "cb"], 3),
                            (["", "a", "b", "c", "ab", "bc", "ac", "abc"], 3)):
            told = view_machine("abc", views, size)
            self.assertEqual([word for word in words_up_to("abc", 5) if reads(told, word)], sorted(views, key=by_order))

    def test_without_the_empty_word(self):
        for letters in ALL_LETTERS:
            for size in sizes_of(letters):
                self.assertEqual(view_machine(letters, [], size), no_words(letters))
                self.assertEqual(view_machine(letters, words_up_to(letters, size)[1:], size), no_words(letters))
                self.assertEqual(view_machine(letters, [letters[0]], size), no_words(letters))
                self.assertEqual(view_machine(letters, [""], size), empty_alone(letters))
                self.assertEqual(view_machine(letters, words_up_to(letters, size), size), every_word(letters))

    def test_views_whose_own_views_lack(self):
        self.assertEqual(view_machine("ab", ["", "ab"], 2), empty_alone("ab"))
        self.assertEqual(view_machine("ab", ["", "a", "ab", "ba", "aba"], 3), view_machine("ab", ["", "a"], 3))
        told = view_machine("ab", ["", "a", "b", "ab", "aab", "aa", "bb"], 3)
        self.assertEqual([word for word in words_up_to("ab", 5) if reads(told, word)], ["", "a", "b", "aa", "ab", "bb", "aab"])

    def any_views(self, chance, letters, size):
        """Some views, most of them, in any order, some twice."""
        views = [view for view in words_up_to(letters, size) if view == "" or chance.randrange(4) > 0]
        views += chance.sample(views, len(views) // 2)
        chance.shuffle(views)
        return views

    def check(self, letters, views, size, long_words):
        kept = list(views)
        told = view_machine(letters, views, size)
        self.assertEqual(views, kept)
        check_least(self, told)
        self.assertEqual(told[0], letters)
        known = set(views)
        for word in words_up_to(letters, SHORT[len(letters)]):
            self.assertEqual(reads(told, word), struck(word, size) <= known, (views, size, word))
        for word in long_words:
            self.assertEqual(has(told, word), struck(word, size) <= known, (views, size, word))
        return told

    def test_lists_by_chance(self):
        chance = Random(151)
        for turn in range(150):
            letters = ALL_LETTERS[turn % 5]
            for size in sizes_of(letters):
                views = self.any_views(chance, letters, size)
                self.check(letters, views, size, [any_word(chance, letters, 12), any_word(chance, letters[:2], 20)])

    def test_views_of_long_words(self):
        chance = Random(152)
        for turn in range(40):
            letters = ALL_LETTERS[turn % 5]
            for size in sizes_of(letters):
                # Words that rise, so that not all words are views of them.
                word = "".join(sorted(any_word(chance, letters, 40)))
                views = list(struck(word, size))
                told = self.check(letters, views, size, [word, word[::-1], word[20:] + word[:20]])
                self.assertIs(has(told, word), True)
                self.assertIs(has(told, word[:-1] + letters[0]), struck(word[:-1] + letters[0], size) <= set(views))
                self.assertIs(has(told, word[::2]), True)

    def test_any_order_and_twice(self):
        chance = Random(153)
        for turn in range(60):
            letters = ALL_LETTERS[turn % 5]
            for size in sizes_of(letters):
                views = self.any_views(chance, letters, size)
                told = view_machine(letters, views, size)
                self.assertEqual(view_machine(letters, sorted(set(views)), size), told)
                self.assertEqual(view_machine(letters, views[::-1] + views, size), told)

    def test_a_machines_words_are_in_the_machine_of_its_views(self):
        chance = Random(154)
        for turn in range(100):
            letters = ALL_LETTERS[turn % 5]
            machine = any_machine(chance, letters, chance.choice((2, 3, 6)))
            for size in sizes_of(letters):
                views = views_of(machine, size)
                told = view_machine(letters, views, size)
                self.assertIsNone(least_word(without(machine, told)))
                self.assertEqual(views_of(told, size), views)

    def test_what_becomes_of_the_list_later(self):
        views = ["", "a", "b", "ab"]
        told = view_machine("ab", views, 2)
        kept = repr(told)
        views.clear()
        self.assertEqual(repr(told), kept)
        self.assertEqual(view_machine("ab", ["", "a", "b", "ab"], 2), told)
        self.assertEqual(view_machine("ab", views, 2), no_words("ab"))


if __name__ == "__main__":
    unittest.main()
