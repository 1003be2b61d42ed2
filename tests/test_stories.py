import re
import unittest
from random import Random

from likehands.errors import HandsError, NoStory
from likehands.runs import least_run
from likehands.steps import after, steps_of
from likehands.stories import places_of, read_story, show_story
from likehands.stuck import stuck_run
from helping import (ALL_LETTERS, OTHERS, SHAPES, all_words, any_rule, any_worlds, by_order, is_of, kinds_of, stepped,
                     stepped_at, words_up_to)

DOOR = ("io", "row", (("one", "o", "i", ("all", "left", "o")), ("one", "i", "o", None), ("one", "o", "i", None),
                      ("two", "i", "o", "o", "i")), "o+", ".*i.*i.*")
# Twelve rules, of which the last one alone makes the step, so that its number has two figures.
MANY = ("ab", "row", (("one", "b", "b", None),) * 11 + (("one", "a", "b", None),), "a+", "b+")


def least_rule(world, word, other):
    """The least number of a rule that makes a word of another one, straight from the steps; or None."""
    for number, rule in enumerate(world[2]):
        if other in stepped(world[0], world[1], rule, word):
            return number
    return None


def story_of(world, run):
    lines = [run[0]] + [f"{least_rule(world, word, other)} {other}" for word, other in zip(run, run[1:])]
    return "".join(line + "\n" for line in lines)


def meant_by(world, text):
    """The run that a text is the story of, or None: by the form of its lines, then by the steps."""
    if not re.fullmatch(r"[a-z]+\n(?:(?:0|[1-9][0-9]*) [a-z]+\n)*", text):
        return None
    lines = text[:-1].split("\n")
    run = [line.split(" ")[-1] for line in lines]
    if not is_of(world[3], run[0]) or set("".join(run)) - set(world[0]):
        return None
    for line, word, other in zip(lines[1:], run, run[1:]):
        if int(line.split(" ")[0]) != least_rule(world, word, other):
            return None
    return run


def any_run(chance, world, number, most):
    """A run by chance whose last word needn't be of bad, of at most so many words; or None where none begins."""
    firsts = [word for word in all_words(world[0], number) if is_of(world[3], word)]
    if not firsts:
        return None
    run = [chance.choice(firsts)]
    while len(run) < most:
        steps = steps_of(world, run[-1])
        if not steps:
            break
        run.append(chance.choice(steps)[1])
    return run


def any_runs(seed, many_worlds, most=13):
    chance = Random(seed)
    for world in any_worlds(seed, many_worlds, 6):
        for number in (1, 2, 3, 5):
            run = any_run(chance, world, number, chance.choice((1, 2, 4, most)))
            if run is not None:
                yield world, run


class Stories(unittest.TestCase):
    def refused(self, world, text):
        with self.assertRaises(NoStory, msg=(world, text)) as raised:
            read_story(world, text)
        self.assertIsInstance(raised.exception, HandsError)

    def test_worked_by_hand(self):
        for world, run, story in (
            (DOOR, ["o"], "o\n"),
            (DOOR, ["ooo"], "ooo\n"),
            (DOOR, ["oo", "io"], "oo\n0 io\n"),
            (DOOR, ["oo", "io", "ii"], "oo\n0 io\n2 ii\n"),
            (DOOR, ["oo", "io", "oo", "oi"], "oo\n0 io\n1 oo\n0 oi\n"),
            (DOOR, ["oo", "io", "oi", "ii", "oi"], "oo\n0 io\n3 oi\n0 ii\n1 oi\n"),
            (MANY, ["a", "b", "b"], "a\n11 b\n0 b\n"),
        ):
            told = show_story(world, run)
            self.assertIs(type(told), str)
            self.assertEqual(told, story)
            self.assertEqual(read_story(world, story), run)

    def test_of_several_rules_the_least_number(self):
        # By the first, the third and the fourth rule the same word comes.
        world = ("ab", "row", (("one", "b", "a", None), ("one", "a", "b", None), ("two", "a", "a", "b", "a"),
                               ("one", "a", "b", ("all", "left", "a"))), "a+", "b")
        self.assertEqual([number for number, word in steps_of(world, "aa") if word == "ba"], [1, 2, 3])
        self.assertEqual(show_story(world, ["aa", "ba"]), "aa\n1 ba\n")
        self.assertEqual(read_story(world, "aa\n1 ba\n"), ["aa", "ba"])
        for number in (0, 2, 3, 4, 11):
            self.refused(world, f"aa\n{number} ba\n")

    def test_runs_by_chance(self):
        lengths = []
        for world, run in any_runs(271, 150):
            kept = list(run)
            story = show_story(world, run)
            self.assertEqual(run, kept)
            self.assertEqual(story, story_of(world, run))
            back = read_story(world, story)
            self.assertIs(type(back), list)
            self.assertEqual(back, run)
            lengths.append(len(run))
        for length in (1, 2, 4, 13):
            self.assertGreater(lengths.count(length), 10, length)

    def test_told_runs(self):
        stories = 0
        for world in any_worlds(272, 60, 6):
            for run in (least_run(world, 3), stuck_run(world, 2)):
                if run is not None and len(run) < 14:
                    stories += 1
                    self.assertEqual(read_story(world, show_story(world, run)), run)
        self.assertGreater(stories, 20)

    def test_refused(self):
        for text in (
            "", "\n", "oo", "o o\n", " oo\n", "oo \n", "oo\n\n", "\noo\n", "0 oo\n", "io\n", "ii\n", "xx\n", "oox\n", "OO\n",
            "oo\n0 io", "oo\nio\n", "oo\n0  io\n", "oo\n 0 io\n", "oo\n0 io \n", "oo\n00 io\n", "oo\n01 io\n", "oo\n+0 io\n",
            "oo\n-0 io\n", "oo\n0\nio\n", "oo\n2 io\n", "oo\n1 io\n", "oo\n4 io\n", "oo\n9 io\n", "oo\nx io\n", "oo\n0 ii\n",
            "oo\n0 oo\n", "oo\n0 i\n", "oo\n0 ooi\n", "oo\n0 \n", "oo\n0\n", "oo\n io\n", "oo\n0io\n", "oo\n0 io\n\n",
            "oo\n0 io\n0 io\n", "oo\n0 io\n2 io\n", "oo\n0 xx\n", "oo\n0 io\noo\n", "oo\n0 io\n1 oo\n3 oi\n", "oo 0 io\n",
            "oo\n0 io\r\n", "oo\n0\tio\n", "letters io\nrow\nbegin o+\nbad i\n", "oo\n0 io io\n", "oo\n0 0 io\n", "none",
        ):
            self.assertIsNone(meant_by(DOOR, text))
            self.refused(DOOR, text)

    def test_noughts_ahead_and_figures(self):
        self.assertEqual(read_story(MANY, "a\n11 b\n"), ["a", "b"])
        for number in ("011", "0011", "1 1", "12", "1", "111", "-1", "+11", "1_1", "11.0", "\u0661\u0661", ""):
            self.refused(MANY, f"a\n{number} b\n")
        self.refused(MANY, "a\n11 b\n00 b\n")

    def test_a_first_word_that_is_not_of_begin(self):
        self.refused(DOOR, "oi\n1 oo\n")
        self.refused(DOOR, "io\n")
        self.assertEqual(read_story(DOOR[:3] + (".+", DOOR[4]), "oi\n1 oo\n"), ["oi", "oo"])

    def test_one_change_in_a_text(self):
        chance = Random(273)
        answers = []
        signs = "abdiox0123 \n.|"
        for world, run in any_runs(274, 60, 6):
            story = show_story(world, run)
            lines = story.splitlines(True)
            texts = []
            for turn in range(12):
                at = chance.randrange(len(story))
                texts += [story[:at] + story[at + 1:], story[:at] + chance.choice(signs) + story[at:],
                          story[:at] + chance.choice(signs) + story[at + 1:],
                          story[:at] + chance.choice(world[0]) + story[at + 1:],
                          story[:at] + story[at + 1:at + 2] + story[at] + story[at + 2:]]
                line = chance.randrange(len(lines))
                texts += ["".join(lines[:line] + lines[line + 1:]), "".join(lines[:line] + lines[line:line + 1] + lines[line:]),
                          "".join(lines[::-1]), "".join(lines[line:]), "".join(lines[:line + 1])]
                number = chance.randrange(len(world[2]) + 1)
                texts.append("".join(lines[:line] + [re.sub(r"^\d+", str(number), lines[line])] + lines[line + 1:]))
            for text in texts:
                meant = meant_by(world, text)
                answers.append(meant is None)
                if meant is None:
                    self.refused(world, text)
                else:
                    self.assertEqual(read_story(world, text), meant)
        self.assertGreater(answers.count(True), 1000)
        self.assertGreater(answers.count(False), 300)

    def test_another_worlds_story(self):
        story = show_story(DOOR, ["oo", "io", "ii"])
        self.assertEqual(read_story(DOOR[:2] + (DOOR[2][:3],) + DOOR[3:], story), ["oo", "io", "ii"])
        self.refused(DOOR[:2] + (DOOR[2][:2],) + DOOR[3:], story)
        self.refused(DOOR[:2] + (DOOR[2][::-1],) + DOOR[3:], story)
        self.refused(DOOR[:3] + ("ooo+", DOOR[4]), story)

    def test_things_that_are_no_texts(self):
        for thing in OTHERS:
            if not isinstance(thing, str):
                self.refused(DOOR, thing)
        self.refused(DOOR, ["o"])
        self.refused(DOOR, b"o\n")

    def test_words_that_are_no_run(self):
        for run in ([], ["i"], ["o", "o"], ["oo", "ii"], ["oo", "io", "ooo"], ["oo", "xx"], [""]):
            with self.assertRaises(NoStory):
                show_story(DOOR, run)

    def test_bad_does_not_count(self):
        self.assertEqual(read_story(DOOR, "oo\n0 io\n2 ii\n1 oi\n"), ["oo", "io", "ii", "oi"])

    def test_each_list_is_the_askers_own(self):
        first = read_story(DOOR, "oo\n0 io\n")
        second = read_story(DOOR, "oo\n0 io\n")
        self.assertIsNot(first, second)
        first.clear()
        second.append("no")
        self.assertEqual(read_story(DOOR, "oo\n0 io\n"), ["oo", "io"])
        run = ["oo", "io"]
        story = show_story(DOOR, run)
        run.clear()
        self.assertEqual(story, "oo\n0 io\n")


class PlacesOf(unittest.TestCase):
    def test_worked_by_hand(self):
        rules = (("one", "a", "b", None), ("one", "a", "a", None), ("two", "a", "b", "b", "a"), ("two", "a", "a", "a", "a"),
                 ("call", "a", "b", "bb"), ("one", "b", "a", ("some", "left", "a")), ("call", "b", "b", "ab"))
        for shape, number, word, other, places in (
            ("row", 0, "aab", "bab", [0]),
            ("row", 0, "aab", "abb", [1]),
            ("row", 0, "aab", "aab", []),
            ("row", 0, "aab", "aa", []),
            ("row", 1, "aab", "aab", [0, 1]),
            ("row", 1, "bbb", "bbb", []),
            ("row", 2, "abab", "baab", [0]),
            ("row", 2, "abab", "abba", [2]),
            ("row", 2, "ba", "ab", []),
            ("ring", 2, "ba", "ab", [1]),
            ("ring", 2, "bba", "abb", [2]),
            ("row", 3, "aaa", "aaa", [0, 1]),
            ("ring", 3, "aaa", "aaa", [0, 1, 2]),
            ("ring", 3, "aa", "aa", [0, 1]),
            ("ring", 3, "a", "a", []),
            ("row", 4, "aba", "bbb", [0, 2]),
            ("row", 4, "bbb", "bbb", []),
            ("row", 5, "bab", "baa", [2]),
            ("row", 5, "bab", "aab", []),
            ("row", 6, "bab", "bab", [0, 2]),
            ("row", 0, "", "", []),
            ("row", 0, "a", "", []),
        ):
            world = ("ab", shape, rules[:5] + ((rules[5],) if shape == "row" else (rules[0],)) + rules[6:], "a", "b")
            told = places_of(world, number, word, other)
            self.assertIs(type(told), list)
            self.assertEqual(told, places, (shape, number, word, other))

    def check(self, world, number, word, other):
        letters, shape, rules, begin, bad = world
        meant = [place for place in range(len(word)) if stepped_at(letters, shape, rules[number], word, place) == other]
        self.assertEqual(places_of(world, number, word, other), meant, (world, number, word, other))
        return len(meant)

    def test_each_kind_of_rule(self):
        chance = Random(281)
        many = []
        for letters in ALL_LETTERS:
            for shape in SHAPES:
                for kind in kinds_of(shape):
                    world = (letters, shape, (any_rule(chance, letters, kind),), letters[0], letters[0])
                    for word in words_up_to(letters, 3 if len(letters) < 4 else 2):
                        for other in all_words(letters, len(word)):
                            many.append(self.check(world, 0, word, other))
        for number in (0, 1, 2, 3):
            self.assertGreater(many.count(number), 10, number)

    def test_worlds_by_chance(self):
        for world in any_worlds(282, 60, 8):
            for word in all_words(world[0], 4)[::7]:
                for number, rule in enumerate(world[2]):
                    others = after(world[0], world[1], rule, word)
                    self.assertEqual(sorted(others, key=by_order), others)
                    for other in others + [word, word[::-1]]:
                        many = self.check(world, number, word, other)
                        self.assertEqual(many > 0, other in others)

    def test_long_words(self):
        world = ("ab", "ring", (("one", "a", "a", None), ("two", "a", "a", "a", "a"), ("call", "a", "a", "ab")), "a", "b")
        for number in range(3):
            self.assertEqual(places_of(world, number, "a" * 40, "a" * 40), list(range(40)))

    def test_each_list_is_the_askers_own(self):
        world = ("ab", "row", (("one", "a", "a", None),), "a", "b")
        first = places_of(world, 0, "aa", "aa")
        second = places_of(world, 0, "aa", "aa")
        self.assertIsNot(first, second)
        first.clear()
        second.append(7)
        self.assertEqual(places_of(world, 0, "aa", "aa"), [0, 1])


if __name__ == "__main__":
    unittest.main()
