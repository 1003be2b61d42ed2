import unittest
from random import Random

from likehands.images import before, image
from likehands.keeping import looked_at, safe_for
from likehands.machines import both, either, has, least, least_word, turned, without
from likehands.patterns import machine_of
from helping import (ALL_LETTERS, HANDS, SHAPES, all_come, all_stepped, any_goal, any_machine, any_rule, any_word, any_world,
                     any_worlds, by_order, check_least, cycle, disguised, every_word, is_of, kinds_of, no_words, reads,
                     stepped, words_up_to)

SHORT = {1: 12, 2: 7, 3: 5, 4: 4, 5: 3}

# A hand goes in only where all others are out; two that are in are bad.
DOOR = ("io", "row", (("one", "o", "i", ("all", "others", "o")), ("one", "i", "o", None)), "o+", ".*i.*i.*")
FEW = machine_of("io", "o*|o*io*")
# The token goes on round the ring; two tokens are bad.
TOKEN = ("nt", "ring", (("two", "t", "n", "n", "t"),), "tn*", ".*t.*t.*")


class WorkedByHand(unittest.TestCase):
    def test_kept(self):
        self.assertEqual(looked_at(DOOR, FEW), ("kept",))
        self.assertEqual(looked_at(DOOR, machine_of("io", "o+|o*io*")), ("kept",))
        self.assertEqual(looked_at(TOKEN, machine_of("nt", "n*tn*")), ("kept",))

    def test_begin(self):
        self.assertEqual(looked_at(DOOR, no_words("io")), ("begin", "o"))
        self.assertEqual(looked_at(DOOR, machine_of("io", "o|oo")), ("begin", "ooo"))
        self.assertEqual(looked_at(DOOR, machine_of("io", "o*i.*")), ("begin", "o"))
        # The empty word is not of begin, so it need not be the machine's.
        self.assertEqual(looked_at(DOOR, turned(machine_of("io", "o*"))), ("begin", "o"))

    def test_step(self):
        self.assertEqual(looked_at(DOOR, machine_of("io", "o+")), ("step", 0, "o", "i"))
        self.assertEqual(looked_at(DOOR, machine_of("io", "o+|o*i")), ("step", 0, "oo", "io"))
        self.assertEqual(looked_at(DOOR, either(FEW, machine_of("io", "iii"))), ("step", 1, "iii", "iio"))
        self.assertEqual(looked_at(TOKEN, machine_of("nt", "tn*|n+t")), ("step", 0, "tnn", "ntn"))
        self.assertEqual(looked_at(TOKEN, machine_of("nt", "tn*|ntn*")), ("step", 0, "ntn", "nnt"))

    def test_bad(self):
        self.assertEqual(looked_at(DOOR, every_word("io")), ("bad", "ii"))
        self.assertEqual(looked_at(TOKEN, machine_of("nt", ".+")), ("bad", "tt"))
        self.assertEqual(looked_at(("ab", "row", (), "a+", ".*b|aaa"), machine_of("ab", "a+")), ("bad", "aaa"))

    def test_no_rules(self):
        world = ("ab", "row", (), "a+", "b+")
        self.assertEqual(looked_at(world, machine_of("ab", "a+")), ("kept",))
        self.assertEqual(looked_at(world, machine_of("ab", "a|aaa+")), ("begin", "aa"))
        self.assertEqual(looked_at(world, machine_of("ab", "a+|bbb")), ("bad", "bbb"))

    def test_the_order_of_the_answers(self):
        # All three are so: begin goes first, then the step, though their words are longer.
        world = ("ab", "row", (("one", "a", "b", ("some", "left", "b")),), "bbbb", "a")
        machine = machine_of("ab", "a|ba")
        self.assertEqual(looked_at(world, machine), ("begin", "bbbb"))
        machine = either(machine, machine_of("ab", "bbbb"))
        self.assertEqual(looked_at(world, machine), ("step", 0, "ba", "bb"))
        machine = either(machine, machine_of("ab", "bb"))
        self.assertEqual(looked_at(world, machine), ("bad", "a"))
        self.assertEqual(looked_at(world, without(machine, machine_of("ab", "a"))), ("kept",))

    def test_of_several_rules_the_first(self):
        long_one = ("one", "b", "c", ("some", "left", "b"))
        short_one = ("one", "b", "a", None)
        machine = machine_of("abc", "b+")
        for rules, told in (((long_one, short_one), ("step", 0, "bb", "bc")),
                            ((short_one, long_one), ("step", 0, "b", "a")),
                            ((("one", "a", "b", None), short_one, long_one), ("step", 1, "b", "a")),
                            ((("one", "b", "b", None), long_one, long_one), ("step", 1, "bb", "bc"))):
            self.assertEqual(looked_at(("abc", "row", rules, "b+", "c"), machine), told)

    def test_next_the_least_and_word_the_least(self):
        rules = (("one", "b", "c", None),)
        # ca comes of ba; cc, which is greater, of bc and of cb.
        world = ("abc", "row", rules, "ba", "a")
        self.assertEqual(looked_at(world, machine_of("abc", "ba|bc|cb")), ("step", 0, "ba", "ca"))
        self.assertEqual(looked_at(world, machine_of("abc", "ba|bc|cb|ca")), ("step", 0, "bc", "cc"))
        self.assertEqual(looked_at(world, machine_of("abc", "ba|cb|ca")), ("step", 0, "cb", "cc"))
        # A shorter next goes ahead of a lesser one.
        self.assertEqual(looked_at(world, machine_of("abc", "ba|c[ab]|aab")), ("step", 0, "cb", "cc"))
        # aac comes by the call of all words with b at the end.
        for begin, pattern, word in (("bab", ".*b.*", "aab"), ("bbb", "bbb|cab", "bbb"), ("bcb", "ccb|bcb", "bcb")):
            world = ("abc", "row", (("call", "b", "c", "aaa"),), begin, "a")
            machine = both(machine_of("abc", pattern), machine_of("abc", "..."))
            self.assertEqual(looked_at(world, machine), ("step", 0, word, "aac"))

    def test_longer_words(self):
        # Words whose letters behind the fifty-seventh are all a: the first that leads out has fifty-eight.
        rows = tuple((state + 1, state + 1) for state in range(57)) + ((58, 59), (58, 59), (59, 59))
        machine = ("ab", rows, tuple(range(59)))
        self.assertEqual(looked_at(("ab", "row", (("one", "a", "b", None),), "a+", "b"), machine),
                         ("step", 0, "a" * 58, "a" * 57 + "b"))
        # Words with at most one b, but none with one of some lengths.
        few = machine_of("ab", "a*|a*ba*")
        world = ("ab", "ring", (("two", "b", "a", "a", "b"), ("one", "a", "b", ("all", "others", "a"))), "a+", "bb")
        machine = without(few, both(machine_of("ab", "a*ba*"), cycle(50, (0,), "ab")))
        self.assertEqual(looked_at(world, machine), ("step", 1, "a" * 50, "a" * 49 + "b"))
        machine = without(few, both(machine_of("ab", "a+b"), cycle(50, (49,), "ab")))
        self.assertEqual(looked_at(world, machine), ("step", 0, "a" * 47 + "ba", "a" * 48 + "b"))
        # The least words of begin and of bad may be long, too.
        self.assertEqual(looked_at(("a", "row", (), "a+", "a"), turned(cycle(59))), ("begin", "a" * 59))
        lacking = either(cycle(59, (58,)), cycle(60, (59,)))
        self.assertEqual(looked_at(("a", "row", (), "a+", "aa"), turned(lacking)), ("begin", "a" * 58))
        self.assertEqual(looked_at(("a", "row", (), "a" * 6, "aaaaaaa+"), cycle(53, (6, 52))), ("bad", "a" * 52))


class GoneThrough(unittest.TestCase):
    """What is told, held against all short words and against the words that it names."""

    def check(self, world, machine):
        letters, shape, rules, begin, bad = world
        told = looked_at(world, machine)
        self.assertIs(type(told), tuple)
        words = words_up_to(letters, SHORT[len(letters)])
        held = {word for word in words if reads(machine, word)}
        lacking = [word for word in words if is_of(begin, word) and word not in held]
        if told[0] == "begin":
            self.assertEqual(len(told), 2)
            self.assertTrue(is_of(begin, told[1]) and not has(machine, told[1]))
            self.first_of_short(words, lacking, told[1])
            return told[0]
        self.assertEqual(lacking, [])
        for number, rule in enumerate(rules):
            lost = self.lost(world, rule, words, held)
            if told[0] == "step" and told[1] == number:
                self.check_step(world, machine, told, words, lost)
                return told[0]
            self.assertEqual(lost, {}, (world, machine))
        broken = [word for word in words if is_of(bad, word) and word in held]
        if told[0] == "bad":
            self.assertEqual(len(told), 2)
            self.assertTrue(is_of(bad, told[1]) and has(machine, told[1]))
            self.first_of_short(words, broken, told[1])
            return told[0]
        self.assertEqual(told, ("kept",))
        self.assertEqual(broken, [])
        self.check_kept(world, machine)
        return told[0]

    def lost(self, world, rule, words, held):
        """For each short word that comes by a rule of the machine's and is none of it the least that it comes of."""
        lost = {}
        for word in words:
            if word in held:
                for other in stepped(world[0], world[1], rule, word):
                    if other not in held:
                        lost.setdefault(other, word)
        return lost

    def check_step(self, world, machine, told, words, lost):
        kind, number, word, other = told
        self.assertIs(type(number), int)
        self.assertTrue(has(machine, word) and not has(machine, other))
        self.assertIn(other, stepped(world[0], world[1], world[2][number], word))
        self.first_of_short(words, sorted(lost, key=by_order), other)
        if other in lost:
            self.assertEqual(word, lost[other], (world, machine))

    def first_of_short(self, words, found, word):
        """That a told word is the first of some that were found, or longer than all words that were gone through."""
        if len(word) <= len(words[-1]):
            self.assertEqual(found[0], word)
        else:
            self.assertEqual(found, [])

    def check_kept(self, world, machine):
        for number in range(1, min(5, HANDS[len(world[0])]) + 1):
            for word in all_come(world, number):
                self.assertTrue(has(machine, word) and not is_of(world[4], word), (world, machine))

    def test_machines_by_chance(self):
        chance = Random(121)
        kinds = []
        for world in any_worlds(121, 300, 8):
            machine = any_machine(chance, world[0], chance.choice((1, 2, 3, 5)))
            kinds.append(self.check(world, machine))
            kinds.append(self.check(world, either(machine, machine_of(world[0], world[3]))))
        for kind in ("begin", "step", "bad"):
            self.assertGreater(kinds.count(kind), 20, kind)

    def test_machines_that_are_nearly_kept(self):
        chance = Random(122)
        kinds = []
        for turn in range(400):
            letters = ALL_LETTERS[turn % 5]
            world = any_world(chance, letters, chance.choice(SHAPES), chance.randrange(1, 4))
            machine = machine_of(letters, world[3])
            for rule in world[2] * 4:
                if len(machine[1]) < 9:
                    machine = either(machine, image(machine, world[1], rule))
            kinds.append(self.check(world[:4] + (any_goal(chance, letters, 5),), machine))
        for kind in ("step", "bad", "kept"):
            self.assertGreater(kinds.count(kind), 40, kind)

    def test_each_kind_of_rule(self):
        chance = Random(123)
        for letters in ALL_LETTERS:
            for shape in SHAPES:
                for kind in kinds_of(shape):
                    for turn in range(3):
                        rule = any_rule(chance, letters, kind)
                        world = (letters, shape, (rule,), any_goal(chance, letters, 2), any_goal(chance, letters, 3))
                        machine = any_machine(chance, letters, 3)
                        self.check(world, either(machine, machine_of(letters, world[3])))

    def test_sixty_states(self):
        chance = Random(124)
        for turn in range(60):
            letters = ALL_LETTERS[turn % 5]
            world = any_world(chance, letters, chance.choice(SHAPES), 8)
            self.check(world, any_machine(chance, letters, 60))
            machine = either(machine_of(letters, world[3]), cycle(7, (0, 1, 3), letters))
            self.check(world, machine)
            self.check(world, disguised(chance, machine))

    def test_words_of_the_image(self):
        # next is the least of the image without the machine, of whatever length.
        chance = Random(125)
        for turn in range(150):
            letters = ALL_LETTERS[turn % 5]
            shape = chance.choice(SHAPES)
            rule = any_rule(chance, letters, chance.choice(kinds_of(shape)))
            machine = any_machine(chance, letters, 4)
            world = (letters, shape, (rule,), any_goal(chance, letters, 2), letters[0])
            machine = either(machine, machine_of(letters, world[3]))
            told = looked_at(world, machine)
            other = least_word(without(image(machine, shape, rule), machine))
            if other is None:
                self.assertNotEqual(told[0], "step")
                continue
            alone = one_word(letters, other)
            self.assertEqual(told, ("step", 0, least_word(both(machine, before(alone, shape, rule))), other))

    def test_the_machine_need_not_be_least(self):
        chance = Random(126)
        for world in any_worlds(126, 60):
            machine = any_machine(chance, world[0], 4)
            twin = disguised(chance, machine)
            kept = repr((world, twin))
            self.assertEqual(looked_at(world, twin), looked_at(world, machine))
            self.assertEqual(looked_at(world, twin), looked_at(world, least(machine)))
            self.assertEqual(repr((world, twin)), kept)


def one_word(letters, word):
    """The machine of one word alone."""
    many = len(word)
    rows = [tuple(at + 1 if letter == word[at] else many + 1 for letter in letters) for at in range(many)]
    return letters, tuple(rows) + ((many + 1,) * len(letters),) * 2, (many,)


class SafeFor(unittest.TestCase):
    def test_worked_by_hand(self):
        world = ("ab", "row", (("one", "a", "b", None),), "a", "bbb")
        self.assertEqual(safe_for(world, 0), turned(machine_of("ab", "bbb")))
        self.assertEqual(safe_for(world, 1), turned(either(machine_of("ab", "bbb|abb"), machine_of("ab", "bab|bba"))))
        self.assertEqual(safe_for(world, 2), turned(without(machine_of("ab", "..."), machine_of("ab", "aaa"))))
        for steps in (3, 4):
            self.assertEqual(safe_for(world, steps), turned(machine_of("ab", "...")))

    def test_a_ring(self):
        # Words with two tokens come of such words alone; so all are safe that are not bad.
        for steps in range(5):
            self.assertEqual(safe_for(TOKEN, steps), turned(machine_of("nt", ".*t.*t.*")))
        world = TOKEN[:4] + ("nt",)
        self.assertEqual(safe_for(world, 1), turned(machine_of("nt", "nt|tn")))

    def test_no_rules(self):
        for letters in ALL_LETTERS:
            for shape in SHAPES:
                world = (letters, shape, (), letters[0], letters[0] + "+")
                for steps in range(5):
                    self.assertEqual(safe_for(world, steps), turned(machine_of(letters, letters[0] + "+")))

    def check(self, world, most, long_words=()):
        letters = world[0]
        words = words_up_to(letters, SHORT[len(letters)])
        broken = {word for word in words if is_of(world[4], word)}
        later = {word: all_stepped(world, word) for word in words}
        last = None
        for steps in range(most + 1):
            told = safe_for(world, steps)
            check_least(self, told)
            self.assertEqual(told[0], letters)
            self.assertIs(has(told, ""), True)
            for word in words:
                self.assertEqual(reads(told, word), word not in broken, (world, steps, word))
            broken |= {word for word in words if later[word] & broken}
            if last is not None:
                self.assertIsNone(least_word(without(told, last)))
                for word in long_words:
                    safe = has(last, word) and all(has(last, other) for other in all_stepped(world, word))
                    self.assertEqual(has(told, word), safe, (world, steps, word))
            last = told

    def test_worlds_by_chance(self):
        chance = Random(131)
        for world in any_worlds(131, 60, 4):
            self.check(world, 4, [any_word(chance, world[0], length) for length in (9, 20, 40)])

    def test_each_kind_of_rule(self):
        chance = Random(132)
        for letters in ALL_LETTERS:
            for shape in SHAPES:
                for kind in kinds_of(shape):
                    rule = any_rule(chance, letters, kind)
                    world = (letters, shape, (rule,), letters[0], any_goal(chance, letters, 4))
                    self.check(world, 3, [any_word(chance, letters, 40) for turn in range(5)])

    def test_eight_rules(self):
        chance = Random(133)
        for letters in ALL_LETTERS:
            self.check(any_world(chance, letters, "row", 8), 2)
            self.check(any_world(chance, letters, "ring", 8), 2)

    def test_safe_words_that_are_kept(self):
        # Where one more step takes no word away the safe words are kept, if all of begin are safe.
        found = 0
        for world in any_worlds(134, 150):
            if safe_for(world, 2) == safe_for(world, 3):
                told = looked_at(world, safe_for(world, 2))
                self.assertIn(told[0], ("begin", "kept"))
                found += told == ("kept",)
        self.assertGreater(found, 10)

    def test_it_stays_the_same(self):
        for world in any_worlds(135, 20):
            kept = repr(world)
            self.assertEqual(safe_for(world, 2), safe_for(world, 2))
            self.assertEqual(repr(world), kept)


if __name__ == "__main__":
    unittest.main()
