import unittest
from random import Random

from likehands.machines import both, is_machine, least
from likehands.patterns import machine_of
from helping import OTHERS, Unfriendly, any_machine, any_machines, cycle, every_word, no_words

GOOD = ("ab", ((0, 1), (2, 1), (2, 2)), (0, 2))


class IsMachine(unittest.TestCase):
    def is_one(self, thing):
        self.assertIs(is_machine(thing), True, thing)

    def is_none(self, thing):
        self.assertIs(is_machine(thing), False, repr(thing))

    def test_machines_of_one_to_five_letters(self):
        self.is_one(GOOD)
        for letters in ("a", "z", "ab", "az", "mnop", "abcde", "vwxyz", "aegkz"):
            self.is_one(no_words(letters))
            self.is_one(every_word(letters))

    def test_machines_of_one_to_many_states(self):
        for machine in any_machines(3, 100, (1, 2, 3, 6, 30, 60, 61)):
            self.is_one(machine)
        self.is_one(any_machine(Random(5), "abcde", 20001))
        self.is_one(cycle(5000, tuple(range(5000))))

    def test_told_machines(self):
        self.is_one(least(GOOD))
        self.is_one(both(GOOD, GOOD))
        self.is_one(machine_of("abc", "a*|[bc]+"))

    def test_letters(self):
        table = ((0,), (0, 0), (0, 0, 0))
        for letters in ("ba", "cab", "abdc", "aa", "aab", "abb", "aba", "", "abcdef", "abcdefghijklmnopqrstuvwxyz",
                        "A", "aB", "Ab", "a1", "1", "0a", " a", "a ", "a_", "`", "{", "a{", "`a", "a-", "a\n", "\n",
                        "\u00e9", "a\u00df", "\u03b1", "\u0430", "\u00aa", "\uff41", "a\u0101", "\U0001d41a"):
            rows = tuple(tuple(0 for letter in letters) for row in table)
            self.is_none((letters, rows, ()))
            self.is_none((letters, rows, (0,)))
        for letters in OTHERS + [("a", "b"), ["a", "b"], b"ab", {"a": 0, "b": 1}, {"a", "b"}]:
            self.is_none((letters, GOOD[1], GOOD[2]))
            self.is_none((letters, ((0,),), ()))

    def test_letters_not_as_many_as_the_rows_are_wide(self):
        self.is_none(("a", GOOD[1], GOOD[2]))
        self.is_none(("abc", GOOD[1], GOOD[2]))

    def test_the_whole(self):
        letters, table, ends = GOOD
        for thing in ([letters, table, ends], (letters, table), (letters, ends), (table, ends), (letters,), (GOOD,),
                      (letters, table, ends, ()), (letters, table, ends, None), (table, letters, ends),
                      (letters, ends, table), (letters, (table,), ends), {0: letters, 1: table, 2: ends}, GOOD + GOOD):
            self.is_none(thing)

    def test_the_table(self):
        letters, table, ends = GOOD
        self.is_none((letters, list(table), ends))
        self.is_none((letters, (), ()))
        self.is_none((letters, (), ends))
        self.is_none((letters, table[:2], ends))
        self.is_none((letters, dict(enumerate(table)), ends))
        for thing in OTHERS:
            self.is_none((letters, thing, ends))
            self.is_none((letters, thing, ()))

    def test_a_row(self):
        letters, table, ends = GOOD
        for at in range(3):
            row = table[at]
            for bad in [list(row), row[:1], (), row + (0,), row + (None,), str(row), {0: row[0], 1: row[1]}, set(row),
                        (row,), (row, row)] + OTHERS:
                self.is_none((letters, table[:at] + (bad,) + table[at + 1:], ends))

    def test_a_number_in_a_row(self):
        letters, table, ends = GOOD
        for at in range(3):
            for column in range(2):
                for bad in [3, 4, 10 ** 30, -1, -3, -10 ** 30, True, False, "0", "", "a", None, (), (0,), [], [0], {},
                            {0: 0}, b"", set(), object(), Unfriendly()]:
                    row = table[at][:column] + (bad,) + table[at][column + 1:]
                    self.is_none((letters, table[:at] + (row,) + table[at + 1:], ends))
                    self.is_none((letters, table[:at] + (row,) + table[at + 1:], ()))

    def test_the_ends(self):
        letters, table, ends = GOOD
        for good in ((), (0,), (1,), (2,), (0, 1), (0, 2), (1, 2), (0, 1, 2)):
            self.is_one((letters, table, good))
        for bad in [[], [0], [0, 2], {0: 2}, {0, 2}, range(2), (2, 0), (1, 0), (0, 2, 1), (0, 0), (1, 1), (0, 1, 1),
                    (0, 1, 0), (3,), (0, 3), (0, 1, 2, 3), (-1,), (-1, 0), (True,), (False,), (0, True), (False, 1),
                    ("0",), (0, "1"), (None,), (0, None), ((),), ((0,),), (0, (1,)), ([],), ([0],), ({},), (0, {}),
                    (Unfriendly(),), (0, Unfriendly())] + OTHERS:
            self.is_none((letters, table, bad))

    def test_things_of_any_other_kind(self):
        for thing in OTHERS + [(), "a", "ab"]:
            self.is_none(thing)
        endless = []
        endless.append(endless)
        self.is_none(endless)
        self.is_none((endless, endless, endless))
        deep = ()
        for turn in range(5000):
            deep = (deep, deep, deep)
        # Not by is_none: so deep a thing can't be shown.
        self.assertIs(is_machine(deep), False)
        self.assertIs(is_machine(("a", deep, deep)), False)


if __name__ == "__main__":
    unittest.main()
