import unittest
from random import Random

from likehands.closedviews import are_closed_views, closed_views
from likehands.keeping import looked_at
from likehands.machines import has
from likehands.views import view_machine
from helping import (ALL_LETTERS, HANDS, SHAPES, all_come, all_stepped, any_goal, any_rule, any_world, any_worlds, by_order,
                     is_of, kinds_of, struck, words_up_to)

DOOR = ("io", "row", (("one", "o", "i", ("all", "others", "o")), ("one", "i", "o", None)), "o+", ".*i.*i.*")
OPEN_DOOR = DOOR[:2] + ((("one", "o", "i", None),),) + DOOR[3:]
TOKEN = ("nt", "ring", (("two", "t", "n", "n", "t"),), "tn*", ".*t.*t.*")


def sizes_of(letters):
    return (1, 2, 3) if len(letters) <= 3 else (1, 2)


class Gone:
    """The steps of all short words of a world, by which a list of views is judged.

    With a word all words that are left of it when letters are struck out are
    in a machine of views. Of a step to a word with a view only the hands of
    that view count, those that are changed (two at most), and one that a guard
    wants: so words of three letters more than the size show all. The patterns
    of begin have at most three items, so for these it is likewise.
    """

    def __init__(self, world, size):
        self.views = {word: struck(word, size) for word in words_up_to(world[0], size + 3)}
        self.later = {word: all_stepped(world, word) for word in self.views}
        self.begin = set().union(*[self.views[word] for word in self.views if is_of(world[3], word)])

    def made(self, known):
        """The views of what comes of the words all of whose views are known."""
        words = [word for word in self.views if self.views[word] <= known]
        return set().union(*[self.views[other] for word in words for other in self.later[word]])

    def is_closed(self, known):
        return self.begin <= known and self.made(known) <= known

    def least(self):
        known = self.begin
        while not self.is_closed(known):
            known = known | self.made(known)
        return sorted(known, key=by_order)


class WorkedByHand(unittest.TestCase):
    def test_least_lists(self):
        for world, size, views in (
            (DOOR, 1, ["", "i", "o"]),
            (DOOR, 2, ["", "i", "o", "io", "oi", "oo"]),
            (OPEN_DOOR, 2, ["", "i", "o", "ii", "io", "oi", "oo"]),
            (TOKEN, 1, ["", "n", "t"]),
            (TOKEN, 2, ["", "n", "t", "nn", "nt", "tn"]),
            (("ab", "row", (), "ab|b", "a"), 2, ["", "a", "b", "ab"]),
            (("ab", "row", (), "ab|b", "a"), 3, ["", "a", "b", "ab"]),
            (("ab", "row", (("two", "a", "b", "b", "a"),), "ab", "a"), 2, ["", "a", "b", "ab", "ba"]),
            (("ab", "row", (("two", "b", "a", "a", "b"),), "ab", "a"), 2, ["", "a", "b", "ab"]),
            (("ab", "ring", (("two", "b", "a", "a", "b"),), "ab", "a"), 2, ["", "a", "b", "ab", "ba"]),
            (("abc", "row", (("call", "a", "c", "bbb"),), "aa", "b"), 2,
             ["", "a", "b", "c", "aa", "bb", "bc", "cb"]),
            (("ab", "row", (("one", "a", "b", None),), "a", "b"), 1, ["", "a", "b"]),
            (("ab", "row", (("one", "b", "a", None),), "a", "b"), 2, ["", "a"]),
            (("a", "row", (("one", "a", "a", None),), "a", "a"), 3, ["", "a"]),
            (("a", "ring", (("two", "a", "a", "a", "a"),), "aa", "a"), 3, ["", "a", "aa"]),
        ):
            told = closed_views(world, size)
            self.assertIs(type(told), list)
            self.assertEqual(told, views, (world, size))
            self.assertIs(are_closed_views(world, views, size), True)

    def test_lists_that_are_none(self):
        self.assertIs(are_closed_views(DOOR, [], 2), False)
        self.assertIs(are_closed_views(DOOR, [""], 2), False)
        self.assertIs(are_closed_views(DOOR, ["i", "o", "io", "oi", "oo"], 2), False)
        # Here begin's views are all there, but a step leads out.
        self.assertIs(are_closed_views(DOOR, ["", "o", "oo"], 2), False)
        self.assertIs(are_closed_views(DOOR, ["", "i", "o", "oi", "oo"], 2), False)
        # Here no step leads out, but begin has other views.
        self.assertIs(are_closed_views(("ab", "row", (), "ab", "a"), ["", "a", "b"], 2), False)
        self.assertIs(are_closed_views(("ab", "row", (), "ab", "a"), ["", "a", "b"], 1), True)

    def test_lists_with_more(self):
        self.assertIs(are_closed_views(DOOR, ["", "i", "o", "io", "oi", "oo", "ii"], 2), True)
        world = ("abc", "row", (("one", "b", "c", None),), "a+", "c")
        self.assertEqual(closed_views(world, 2), ["", "a", "aa"])
        self.assertIs(are_closed_views(world, ["", "a", "aa", "b"], 2), False)
        self.assertIs(are_closed_views(world, ["", "a", "aa", "b", "c"], 2), True)
        self.assertIs(are_closed_views(world, ["", "a", "aa", "c", "cc", "ac"], 2), True)
        # A view without its own views is one of no word of the machine, so nothing comes of it.
        self.assertIs(are_closed_views(world, ["", "a", "aa", "ab"], 2), True)


class GoneThrough(unittest.TestCase):
    def check(self, chance, world, size):
        gone = Gone(world, size)
        told = closed_views(world, size)
        self.assertIs(type(told), list)
        self.assertEqual(told, gone.least(), (world, size))
        self.judged(world, size, told, True)
        # No closed list lacks a view of the least one.
        for at in range(len(told)):
            self.judged(world, size, told[:at] + told[at + 1:], False)
        every = words_up_to(world[0], size)
        self.judged(world, size, every, True)
        answers = []
        for turn in range(4):
            more = told + [view for view in every if view not in told and chance.randrange(3) == 0]
            chance.shuffle(more)
            answers.append(gone.is_closed(set(more)))
            self.judged(world, size, more, answers[-1])
            self.judged(world, size, more + more[::-1], answers[-1])
            some = [view for view in every if chance.randrange(4) > 0]
            self.judged(world, size, some, gone.is_closed(set(some)))
        return answers

    def judged(self, world, size, views, meant):
        kept = list(views)
        self.assertIs(are_closed_views(world, views, size), meant, (world, views, size))
        self.assertEqual(views, kept)

    def test_each_kind_of_rule(self):
        chance = Random(161)
        answers = []
        for letters in ALL_LETTERS:
            for shape in SHAPES:
                for kind in kinds_of(shape):
                    rule = any_rule(chance, letters, kind)
                    world = (letters, shape, (rule,), any_goal(chance, letters, 2), letters[0])
                    for size in sizes_of(letters):
                        answers += self.check(chance, world, size)
        self.assertGreater(answers.count(True), 50)
        self.assertGreater(answers.count(False), 50)

    def test_no_rules(self):
        chance = Random(162)
        for letters in ALL_LETTERS:
            for shape in SHAPES:
                world = any_world(chance, letters, shape, 0)
                for size in sizes_of(letters):
                    self.check(chance, world, size)

    def test_worlds_by_chance(self):
        chance = Random(163)
        for world in any_worlds(163, 50, 8):
            for size in sizes_of(world[0]):
                self.check(chance, world, size)

    def test_all_words_that_come_are_in_its_machine(self):
        for world in any_worlds(164, 60, 8):
            for size in sizes_of(world[0]):
                machine = view_machine(world[0], closed_views(world, size), size)
                self.assertIn(looked_at(world, machine)[0], ("bad", "kept"))
                for number in range(1, min(5, HANDS[len(world[0])]) + 1):
                    for word in all_come(world, number):
                        self.assertIs(has(machine, word), True, (world, size, word))

    def test_each_list_is_the_askers_own(self):
        first = closed_views(DOOR, 2)
        second = closed_views(DOOR, 2)
        self.assertIsNot(first, second)
        kept = list(first)
        first.clear()
        self.assertEqual(second, kept)
        second.append("no")
        self.assertEqual(closed_views(DOOR, 2), kept)


if __name__ == "__main__":
    unittest.main()
