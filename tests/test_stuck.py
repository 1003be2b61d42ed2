import unittest
from random import Random

from likehands.keeping import looked_at
from likehands.machines import has, least_word, turned
from likehands.patterns import machine_of
from likehands.runs import come
from likehands.stuck import least_stuck, stuck_machine, stuck_run
from helping import (ALL_LETTERS, HANDS, SHAPES, all_come, all_stepped, any_goal, any_machine, any_rule, any_word, any_world,
                     any_worlds, by_order, check_least, cycle, disguised, empty_alone, every_word, is_of, kinds_of,
                     least_list, no_words, reads, tried_words, words_up_to)

# The greatest numbers of hands, as HANDS, but of two letters at most eight.
NUMBERS = {**HANDS, 2: 8}
SHORT = {1: 10, 2: 7, 3: 5, 4: 4, 5: 3}
# Two free neighbours go to work, one holding for the other, and become free again.
WAIT = ("fhw", "ring", (("two", "f", "f", "h", "w"), ("two", "h", "w", "f", "f")), "f+", "w")
# A hand goes out where another one is still in, so one stays in.
OUT = ("io", "row", (("one", "i", "o", ("some", "others", "i")),), "i+", "o+")


def is_stuck(world, word):
    """Whether a word of one letter or more is stuck, by the steps that the test goes through."""
    return word != "" and not all_stepped(world, word)


def world_of(letters, shape, rules):
    return letters, shape, tuple(rules), letters[0] + "+", letters[0]


class StuckMachine(unittest.TestCase):
    def check(self, world, words):
        told = stuck_machine(world)
        check_least(self, told)
        self.assertEqual(told[0], world[0])
        self.assertIs(has(told, ""), False)
        for word in words:
            self.assertIs(has(told, word), is_stuck(world, word), (world, word))
        return told

    def test_worked_by_hand(self):
        for letters, shape, rules, pattern in (
            ("ab", "row", [], ".+"),
            ("ab", "row", [("one", "a", "b", None)], "b+"),
            ("ab", "row", [("one", "a", "a", None)], "b+"),
            ("ab", "row", [("two", "a", "b", "b", "a")], "b+a*|b*a+"),
            ("ab", "ring", [("two", "a", "b", "b", "a")], "a+|b+"),
            ("ab", "row", [("two", "a", "b", "a", "b")], "b+a*|b*a+"),
            ("ab", "row", [("call", "a", "b", "ab")], "b+"),
            ("ab", "row", [("one", "a", "b", ("all", "left", "b"))], "b+"),
            ("ab", "row", [("one", "a", "b", ("all", "left", "a"))], "b.*"),
            ("ab", "row", [("one", "a", "b", ("some", "left", "b"))], "b+|a+b*"),
            ("ab", "row", [("one", "a", "b", ("all", "right", "a"))], ".*b"),
            ("ab", "row", [("one", "a", "b", ("some", "right", "b"))], "b+|b*a+"),
            ("ab", "row", [("one", "a", "b", ("all", "others", "b"))], "b+|.*a.*a.*"),
            ("ab", "ring", [("one", "a", "b", ("some", "others", "b"))], "a+|b+"),
            ("ab", "ring", [("one", "a", "b", ("some", "others", "a"))], "b+|b*ab*"),
            ("a", "ring", [("two", "a", "a", "a", "a")], "a"),
            ("a", "row", [("one", "a", "a", ("some", "left", "a"))], "a"),
            ("abc", "row", [("one", "a", "b", None), ("one", "b", "a", None)], "c+"),
        ):
            world = world_of(letters, shape, rules)
            self.assertEqual(stuck_machine(world), machine_of(letters, pattern), world)
            self.check(world, words_up_to(letters, 6))

    def test_no_rules(self):
        for letters in ALL_LETTERS:
            for shape in SHAPES:
                self.assertEqual(stuck_machine(world_of(letters, shape, [])), machine_of(letters, ".+"))

    def test_no_stuck_words(self):
        for letters in ALL_LETTERS:
            rules = [("one", letter, letter, None) for letter in letters]
            self.assertEqual(stuck_machine(world_of(letters, "ring", rules)), no_words(letters))

    def test_a_rule_that_makes_the_same_word(self):
        for letters in ALL_LETTERS:
            x = letters[0]
            for shape in SHAPES:
                for rule in (("one", x, x, None), ("one", x, x, ("all", "others", letters)), ("two", x, x, x, x),
                             ("call", x, x, letters)):
                    told = self.check(world_of(letters, shape, [rule]), words_up_to(letters, 4))
                    self.assertIs(has(told, x + x), False)

    def test_each_kind_of_rule(self):
        chance = Random(211)
        for letters in ALL_LETTERS:
            for shape in SHAPES:
                for kind in kinds_of(shape):
                    for turn in range(2):
                        world = world_of(letters, shape, [any_rule(chance, letters, kind)])
                        self.check(world, tried_words(letters, turn))

    def test_worlds_by_chance(self):
        chance = Random(212)
        for world in any_worlds(212, 150, 8):
            words = words_up_to(world[0], SHORT[len(world[0])])
            self.check(world, words + [any_word(chance, world[0], length) for length in range(6, 41, 3)])

    def test_long_words(self):
        # Words that stay stuck, or nearly so, however long they are.
        world = world_of("abc", "row", [("two", "a", "b", "b", "a"), ("one", "c", "a", ("all", "right", "a"))])
        words = ["b" * many + "a" * (40 - many) for many in range(41)] + ["c" + "b" * 39, "c" + "a" * 39]
        words += ["b" * many + "c" + "b" * (39 - many) for many in range(40)]
        told = self.check(world, words)
        self.assertGreater(len([word for word in words if reads(told, word)]), 70)

    def test_it_hangs_on_the_rules_alone(self):
        for letters, shape, rules, begin, bad in any_worlds(213, 20):
            told = stuck_machine((letters, shape, rules, begin, bad))
            self.assertEqual(stuck_machine((letters, shape, rules[::-1] + rules, bad, begin)), told)


class LeastStuck(unittest.TestCase):
    def test_worked_by_hand(self):
        world = world_of("ab", "row", [("two", "a", "b", "b", "a")])
        for pattern, word in ((".*", "a"), (".+", "a"), ("b+", "b"), (".*ab.*", None), ("a*ba", "ba"), ("..", "aa"),
                              ("a+b+", None), ("ab|ba", "ba"), (".*b.*a.*", "ba"), ("ab|b", "b")):
            self.assertEqual(least_stuck(world, machine_of("ab", pattern)), word, pattern)
        self.assertIsNone(least_stuck(world, no_words("ab")))
        # The empty word is not one of one letter or more.
        self.assertIsNone(least_stuck(world, empty_alone("ab")))
        self.assertEqual(least_stuck(world, every_word("ab")), "a")

    def test_of_begin(self):
        self.assertEqual(least_stuck(OUT, machine_of("io", OUT[3])), "i")
        self.assertEqual(least_stuck(OUT, machine_of("io", "iii*")), None)
        self.assertEqual(least_stuck(WAIT, machine_of("fhw", "f+")), "f")
        self.assertIsNone(least_stuck(WAIT, machine_of("fhw", "fff*")))

    def test_a_machine_of_one_word(self):
        for world in any_worlds(221, 40):
            for word in words_up_to(world[0], 3)[1:]:
                machine = machine_of(world[0], word)
                self.assertEqual(least_stuck(world, machine), word if is_stuck(world, word) else None)

    def test_machines_by_chance(self):
        chance = Random(222)
        nones = 0
        for world in any_worlds(222, 200, 8):
            machine = any_machine(chance, world[0], chance.choice((1, 2, 3, 4)))
            words = [word for word in words_up_to(world[0], SHORT[len(world[0])]) if reads(machine, word)]
            meant = next((word for word in words if is_stuck(world, word)), None)
            told = least_stuck(world, machine)
            if meant is not None:
                self.assertEqual(told, meant, (world, machine))
            elif told is not None:
                self.assertGreater(by_order(told), by_order(world[0][-1] * SHORT[len(world[0])]))
                self.assertTrue(reads(machine, told) and is_stuck(world, told))
            else:
                nones += 1
            self.assertEqual(least_stuck(world, disguised(chance, machine)), told)
        self.assertGreater(nones, 20)

    def test_many_states(self):
        world = world_of("ab", "row", [("two", "a", "b", "b", "a")])
        self.assertEqual(least_stuck(world, cycle(60, (59,), "ab")), "a" * 59)
        self.assertEqual(least_stuck(world, cycle(60, (0,), "ab")), "a" * 60)
        ring = world_of("ab", "ring", [("one", "a", "b", ("some", "others", "a"))])
        self.assertEqual(least_stuck(ring, cycle(60, (40,), "ab")), "a" + "b" * 39)
        self.assertIsNone(least_stuck(world_of("ab", "row", [("one", "a", "a", None), ("one", "b", "b", None)]),
                                      cycle(60, (7,), "ab")))

    def test_told_machines(self):
        world = world_of("ab", "row", [("one", "a", "b", None)])
        self.assertEqual(least_stuck(world, stuck_machine(world)), "b")
        self.assertIsNone(least_stuck(world, turned(stuck_machine(world))))

    def test_kept_and_none(self):
        # A token goes round for ever: no hands stand still, for any number from two on.
        world = ("nt", "ring", (("two", "t", "n", "n", "t"),), "tnn*", "n+")
        machine = machine_of("nt", "n*tn+|n+tn*")
        self.assertEqual(looked_at(world, machine), ("kept",))
        self.assertIsNone(least_stuck(world, machine))
        for number in range(2, 9):
            self.assertIsNone(stuck_run(world, number))


class StuckRun(unittest.TestCase):
    def meant(self, world, number):
        return least_list(world, number, lambda word: is_stuck(world, word))

    def test_worked_by_hand(self):
        self.assertEqual(stuck_run(OUT, 1), ["i"])
        self.assertEqual(stuck_run(OUT, 2), ["ii", "io"])
        self.assertEqual(stuck_run(OUT, 3), ["iii", "iio", "ioo"])
        world = ("ab", "row", (("two", "a", "b", "b", "a"),), "ab+", "a")
        self.assertEqual(stuck_run(world, 2), ["ab", "ba"])
        self.assertEqual(stuck_run(world, 4), ["abbb", "babb", "bbab", "bbba"])
        self.assertIsNone(stuck_run(world, 1))
        self.assertIsNone(stuck_run(world[:1] + ("ring",) + world[2:], 4))

    def test_bad_does_not_count(self):
        world = ("abc", "row", (("one", "a", "b", None), ("one", "b", "c", None)), "a", "b")
        self.assertEqual(stuck_run(world, 1), ["a", "b", "c"])
        self.assertEqual(stuck_run(world[:4] + ("a",), 1), ["a", "b", "c"])

    def test_a_stuck_word_of_begin(self):
        world = ("ab", "row", (("one", "b", "a", None),), "a+|b+", "b")
        self.assertEqual(stuck_run(world, 1), ["a"])
        self.assertEqual(stuck_run(world, 8), ["a" * 8])
        for letters in ALL_LETTERS:
            self.assertEqual(stuck_run(world_of(letters, "ring", []), 3), [letters[0] * 3])
            self.assertEqual(stuck_run((letters, "row", (), ".+", letters[0]), 2), [letters[0] * 2])

    def test_none(self):
        self.assertIsNone(stuck_run(("ab", "row", (("one", "a", "b", None), ("one", "b", "a", None)), "a+", "b"), 4))
        self.assertIsNone(stuck_run(("ab", "row", (("one", "a", "a", None),), "a+", "b"), 3))
        # There is no word of begin with so many letters.
        self.assertIsNone(stuck_run(("ab", "row", (), "aa", "b"), 3))
        # Stuck words there are, but none comes.
        world = ("abc", "row", (("one", "a", "b", None), ("one", "b", "a", None)), "a+", "c")
        self.assertEqual(least_word(stuck_machine(world)), "c")
        self.assertIsNone(stuck_run(world, 2))

    def test_of_several_the_first(self):
        world = ("abcd", "row", (("one", "a", "d", None), ("one", "b", "c", None)), "a|b", "c")
        self.assertEqual(stuck_run(world, 1), ["a", "d"])
        # The lesser second word goes ahead of the lesser last one, whatever the rules' order.
        rules = (("one", "a", "c", None), ("one", "a", "b", None), ("one", "b", "e", None), ("one", "c", "d", None))
        self.assertEqual(stuck_run(("abcde", "row", rules, "a", "d"), 1), ["a", "b", "e"])
        # A shorter one goes ahead of a lesser one.
        rules = (("one", "a", "b", None), ("one", "b", "c", None), ("one", "d", "c", None))
        self.assertEqual(stuck_run(("abcd", "row", rules, "a|d", "c"), 1), ["d", "c"])

    def test_against_words_gone_through(self):
        runs = 0
        longer = 0
        nones = 0
        worlds = list(any_worlds(231, 200, 6))
        worlds += [world[:3] + (world[0][0] + "+", world[4]) for world in worlds if len(world[0]) > 1]
        for world in worlds:
            for number in range(1, min(4, NUMBERS[len(world[0])]) + 1):
                told = stuck_run(world, number)
                self.assertEqual(told, self.meant(world, number), (world, number))
                if told is None:
                    nones += 1
                    self.assertFalse([word for word in all_come(world, number) if is_stuck(world, word)])
                    continue
                self.assertIs(type(told), list)
                self.assertTrue(is_of(world[3], told[0]) and has(stuck_machine(world), told[-1]))
                runs += 1
                longer += len(told) > 2
        self.assertGreater(runs, 100)
        self.assertGreater(longer, 20)
        self.assertGreater(nones, 100)

    def test_up_to_the_bounds(self):
        chance = Random(232)
        for letters in ALL_LETTERS:
            for shape in SHAPES:
                number = NUMBERS[len(letters)]
                world = any_world(chance, letters, shape, 8)
                self.assertEqual(stuck_run(world, number), self.meant(world, number))
                rules = tuple(any_rule(chance, letters, kind) for kind in ("one", "two"))
                world = (letters, shape, rules, any_goal(chance, letters, 1), letters[0])
                self.assertEqual(stuck_run(world, number), self.meant(world, number))
        self.assertEqual(len(stuck_run(OUT, 8)), 8)
        self.assertEqual(stuck_run(("a", "row", (), "a+", "a"), 40), ["a" * 40])

    def test_it_ends_in_a_word_that_comes(self):
        for number in range(1, 7):
            run = stuck_run(OUT, number)
            self.assertIn(run[-1], come(OUT, number))

    def test_each_list_is_the_askers_own(self):
        first = stuck_run(OUT, 3)
        second = stuck_run(OUT, 3)
        self.assertIsNot(first, second)
        first.clear()
        second.append("no")
        self.assertEqual(stuck_run(OUT, 3), ["iii", "iio", "ioo"])


if __name__ == "__main__":
    unittest.main()
