import unittest
from random import Random

from likehands.counts import most_of
from likehands.desk import Desk
from likehands.errors import HandsError, NoRow, NoWorld
from likehands.judge import judged
from likehands.runs import come
from likehands.steps import steps_of
from likehands.stuck import stuck_run
from likehands.worlds import show_world
from helping import OTHERS, SHAPES, any_goal, any_rule, any_word, any_worlds, kinds_of

DOOR = ("io", "row", (("one", "o", "i", ("all", "left", "o")), ("one", "i", "o", None)), "o+", ".*i.*i.*")
KEPT_DOOR = ("io", "ring", (("one", "o", "i", ("all", "others", "o")), ("one", "i", "o", None)), "o+", ".*i.*i.*")
# Here three hands do not break it, and no machine of the judge is kept.
LATE = ("ab", "row", (("one", "a", "b", None),), "a+", "bbbb+")
ROWS = ("come 3", "steps oo", "judge 3", "stuck 3", "most i", "come 1", "judge 8", "most o", "stuck 8", "steps i")


def row_of(world):
    return "world\n" + show_world(world)


def desk_with(world):
    desk = Desk()
    desk.say(row_of(world))
    return desk


def listed(texts):
    return " ".join(texts) if texts else "none"


def judge_text(answer):
    if answer[0] == "breaks":
        return "breaks " + str(answer[1]) + "".join(" " + word for word in answer[2])
    return "never " + str(len(answer[1][1])) if answer[0] == "never" else "open"


def any_worlds_at_desks(seed, many_worlds):
    """Worlds of at most three letters and three rules."""
    chance = Random(seed)
    for turn in range(many_worlds):
        letters = ("a", "ab", "abc", "xyz")[turn % 4]
        shape = chance.choice(SHAPES)
        rules = tuple(any_rule(chance, letters, chance.choice(kinds_of(shape))) for _ in range(chance.randrange(4)))
        yield letters, shape, rules, any_goal(chance, letters, 2), any_goal(chance, letters, 4)


class Answers(unittest.TestCase):
    def test_worked_by_hand(self):
        for world, row, answer in (
            (DOOR, "come 1", "i o"),
            (DOOR, "come 2", "ii io oi oo"),
            (KEPT_DOOR, "come 3", "ioo oio ooi ooo"),
            (("ab", "row", (), "aa", "b"), "come 1", "none"),
            (("ab", "row", (), "aa", "b"), "come 2", "aa"),
            (DOOR, "steps oo", "0:io 0:oi"),
            (DOOR, "steps io", "1:oo"),
            (DOOR, "steps ooi", "0:ioi 0:oii 1:ooo"),
            (("ab", "row", (), "aa", "b"), "steps abab", "none"),
            (("ab", "row", (("one", "b", "a", None),), "a", "b"), "steps a", "none"),
            (DOOR, "judge 1", "open"),
            (DOOR, "judge 2", "breaks 2 oo oi ii"),
            (DOOR, "judge 8", "breaks 2 oo oi ii"),
            (("ab", "row", (), "a|b", "b"), "judge 1", "breaks 1 b"),
            (KEPT_DOOR, "judge 3", "never 3"),
            (KEPT_DOOR, "judge 8", "never 3"),
            (LATE, "judge 3", "open"),
            (LATE, "judge 4", "breaks 4 aaaa aaab aabb abbb bbbb"),
            (DOOR, "stuck 3", "none"),
            (("ab", "row", (("one", "a", "b", None),), "a+", "b"), "stuck 2", "aa ab bb"),
            (("ab", "row", (("one", "b", "a", None),), "a+", "b"), "stuck 3", "aaa"),
            (("ab", "row", (), "aa", "b"), "stuck 1", "none"),
            (KEPT_DOOR, "most i", "1"),
            (KEPT_DOOR, "most o", "ever more"),
            (("abc", "row", (), "a+", "c"), "most b", "0"),
            (("abc", "row", (), "a+", "c"), "most a", "ever more"),
        ):
            told = desk_with(world).say(row)
            self.assertIs(type(told), str)
            self.assertEqual(told, answer, (world, row))

    def test_a_world(self):
        desk = Desk()
        self.assertEqual(desk.say(row_of(DOOR)), "ok")
        self.assertEqual(desk.say("come 1"), "i o")

    def test_each_answer_as_the_functions_tell_it(self):
        chance = Random(291)
        rows = 0
        for world in any_worlds_at_desks(291, 120):
            desk = desk_with(world)
            for number in (1, 2, 3, 4):
                self.assertEqual(desk.say(f"come {number}"), listed(come(world, number)))
                self.assertEqual(desk.say(f"stuck {number}"), listed(stuck_run(world, number)))
                self.assertEqual(desk.say(f"judge {number}"), judge_text(judged(world, number)))
                word = any_word(chance, world[0], number)
                told = listed([f"{step}:{other}" for step, other in steps_of(world, word)])
                self.assertEqual(desk.say(f"steps {word}"), told)
            answer = judged(world, 3)
            for letter in world[0]:
                if answer[0] == "never":
                    rows += 1
                    self.assertEqual(desk.say(f"most {letter}"), str(most_of(answer[1], letter)[0]))
                else:
                    with self.assertRaises(NoRow):
                        desk.say(f"most {letter}")
        self.assertGreater(rows, 40)

    def test_larger_worlds(self):
        for world in any_worlds(292, 30, 8):
            desk = desk_with(world)
            self.assertEqual(desk.say("come 3"), listed(come(world, 3)))
            self.assertEqual(desk.say("stuck 3"), listed(stuck_run(world, 3)))
            word = world[0] * 5
            self.assertEqual(desk.say("steps " + word), listed([f"{step}:{other}" for step, other in steps_of(world, word)]))

    def test_numbers_up_to_eight(self):
        desk = desk_with(KEPT_DOOR)
        for number in range(1, 9):
            self.assertEqual(desk.say(f"come {number}"), listed(come(KEPT_DOOR, number)))
            self.assertEqual(desk.say(f"judge {number}"), "never 3")
            self.assertEqual(desk.say(f"stuck {number}"), "none")
        self.assertEqual(len(desk.say("come 8").split(" ")), 9)

    def test_most_is_of_the_judge_by_three_hands(self):
        # Three hands break this one; two do not, but then nothing is kept either.
        world = ("ab", "row", (("one", "a", "b", None),), "a+", "bbb+")
        with self.assertRaises(NoRow):
            desk_with(world).say("most a")
        with self.assertRaises(NoRow):
            desk_with(LATE).say("most b")

    def test_the_same_row_again(self):
        desk = desk_with(KEPT_DOOR)
        for row in ROWS:
            first = desk.say(row)
            self.assertEqual(desk.say(row), first)


class Refused(unittest.TestCase):
    def refused(self, desk, row, kind=NoRow):
        with self.assertRaises(kind, msg=row) as raised:
            desk.say(row)
        self.assertIs(type(raised.exception), kind)
        self.assertIsInstance(raised.exception, HandsError)

    def test_ahead_of_a_world(self):
        desk = Desk()
        for row in ROWS:
            self.refused(desk, row)
        self.assertEqual(desk.say(row_of(KEPT_DOOR)), "ok")
        for row in ROWS:
            desk.say(row)

    def test_no_row(self):
        desk = desk_with(KEPT_DOOR)
        for row in (
            "", " ", "\n", "come", "come ", "come 0", "come 9", "come 01", "come 10", "come 11", "come 1 ", "come  1",
            " come 1", "come 1\n", "\ncome 1", "come\n1", "come 1 2", "come 12", "come x", "come -1", "come +1", "come 1.0",
            "come i", "Come 1", "come1", "comes 1", "come\t1", "come \u0661", "come \u00b2", "come io", "come 1 io",
            "steps", "steps ", "steps 1", "steps x", "steps ox", "steps o o", "steps  o", "steps o ", "steps o\n", "steps O",
            "steps .", "steps o+", "steps oo io", "step o", "steps\no", "steps 0:o",
            "judge", "judge ", "judge 0", "judge 9", "judge 03", "judge 3 3", "judge 3\n", "judge o", "judged 3", "judge 33",
            "stuck", "stuck ", "stuck 0", "stuck 9", "stuck 10", "stuck 02", "stuck o", "stuck 2 ", "stuck 2\n", "stucks 2",
            "most", "most ", "most x", "most io", "most ii", "most i o", "most i ", "most  i", "most i\n", "most 1", "most I",
            "most .", "world", "world ", "worlds\n" + show_world(DOOR), "world" + show_world(DOOR),
            "world " + show_world(DOOR), "world \n" + show_world(DOOR), " world\n" + show_world(DOOR), "World\n",
            show_world(DOOR), "\nworld\n" + show_world(DOOR), "ok", "none", "open", "never", "breaks 2", "quit", "help",
        ):
            self.refused(desk, row)
            self.refused(Desk(), row)

    def test_no_world(self):
        text = show_world(DOOR)
        for desk in (Desk(), desk_with(KEPT_DOOR)):
            for row in ("world\n", "world\n\n", "world\n" + text[:-1], "world\n" + text + "\n", "world\n\n" + text,
                        "world\n" + text + text, "world\n " + text, "world\ncome 3", "world\nworld\n" + text,
                        "world\n" + text.replace("row", "rows"), "world\n" + text.replace("begin o+", "begin o*"),
                        "world\n" + text.replace("letters io", "letters oi")):
                self.refused(desk, row, NoWorld)

    def test_other_kinds_of_things(self):
        for desk in (Desk(), desk_with(KEPT_DOOR)):
            for thing in OTHERS:
                self.refused(desk, thing)
            for thing in (b"come 3", ["come 3"], ("come", 3), 3, row_of(DOOR).encode(), DOOR):
                self.refused(desk, thing)

    def test_what_is_refused_changes_nothing(self):
        desk = desk_with(KEPT_DOOR)
        answers = [desk.say(row) for row in ROWS]
        for row in ("world\n", "world\nletters io\n", "world", "come 9", "most x", None, 7, "", "world\n" + show_world(DOOR)[:-1]):
            with self.assertRaises(HandsError):
                desk.say(row)
            self.assertEqual([desk.say(row) for row in ROWS], answers)

    def test_a_refused_world_leaves_none(self):
        desk = Desk()
        self.refused(desk, "world\nletters io\n", NoWorld)
        self.refused(desk, "come 1")

    def test_letters_of_the_world(self):
        desk = desk_with(("xyz", "row", (("one", "x", "y", None),), "x", "z"))
        self.assertEqual(desk.say("steps xz"), "0:yz")
        self.assertEqual(desk.say("most z"), "0")
        for row in ("steps a", "steps xa", "most a", "most w"):
            self.refused(desk, row)


class Worlds(unittest.TestCase):
    def test_a_new_world(self):
        desk = desk_with(DOOR)
        self.assertEqual(desk.say("judge 3"), "breaks 2 oo oi ii")
        self.assertEqual(desk.say(row_of(KEPT_DOOR)), "ok")
        self.assertEqual(desk.say("judge 3"), "never 3")
        self.assertEqual(desk.say(row_of(("ab", "row", (), "a", "b"))), "ok")
        self.assertEqual(desk.say("come 1"), "a")
        with self.assertRaises(NoRow):
            desk.say("steps o")

    def test_a_worlds_text_that_is_none_leaves_the_elder_one(self):
        desk = desk_with(DOOR)
        with self.assertRaises(NoWorld):
            desk.say("world\n" + show_world(KEPT_DOOR) + " ")
        self.assertEqual(desk.say("judge 3"), "breaks 2 oo oi ii")

    def test_two_desks_do_not_know_of_each_other(self):
        first, second, third = Desk(), Desk(), Desk()
        first.say(row_of(DOOR))
        second.say(row_of(KEPT_DOOR))
        self.assertEqual(first.say("judge 3"), "breaks 2 oo oi ii")
        self.assertEqual(second.say("judge 3"), "never 3")
        with self.assertRaises(NoRow):
            third.say("judge 3")
        first.say(row_of(("ab", "row", (), "a", "b")))
        self.assertEqual(second.say("come 1"), "i o")
        self.assertEqual(first.say("come 1"), "a")

    def test_say_stands_in_the_class_itself(self):
        self.assertIn("say", vars(Desk))


if __name__ == "__main__":
    unittest.main()
