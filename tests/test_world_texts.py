import unittest
from random import Random

from likehands.errors import HandsError, NoWorld
from likehands.worlds import is_world, read_world, show_world
from helping import ALL_LETTERS, SHAPES, any_rule, any_world, any_worlds, kinds_of

WORLD = (
    "abc", "row",
    (("one", "a", "b", None), ("one", "a", "b", ("all", "left", "ab")), ("one", "c", "c", ("some", "right", "c")),
     ("one", "b", "a", ("all", "others", "abc")), ("two", "a", "b", "b", "a"), ("two", "c", "c", "a", "b"),
     ("call", "a", "b", "aac")),
    "a[bc]*", ".*bb.*|c+",
)
TEXT = """letters abc
row
one a -> b
one a -> b when all left in ab
one c -> c when some right in c
one b -> a when all others in abc
two ab -> ba
two cc -> ab
call a -> b by aac
begin a[bc]*
bad .*bb.*|c+
"""
RING = ("xz", "ring", (), "x+", "z")
RING_TEXT = "letters xz\nring\nbegin x+\nbad z\n"


class Written(unittest.TestCase):
    def test_worked_by_hand(self):
        self.assertEqual(show_world(WORLD), TEXT)
        self.assertEqual(show_world(RING), RING_TEXT)
        self.assertEqual(read_world(TEXT), WORLD)
        self.assertEqual(read_world(RING_TEXT), RING)

    def test_each_kind_of_rule(self):
        for rule, line in (
            (("one", "x", "z", None), "one x -> z"),
            (("one", "x", "x", None), "one x -> x"),
            (("one", "x", "z", ("all", "left", "xz")), "one x -> z when all left in xz"),
            (("one", "x", "z", ("all", "right", "x")), "one x -> z when all right in x"),
            (("one", "x", "z", ("all", "others", "z")), "one x -> z when all others in z"),
            (("one", "z", "x", ("some", "left", "xz")), "one z -> x when some left in xz"),
            (("one", "z", "x", ("some", "right", "x")), "one z -> x when some right in x"),
            (("one", "z", "z", ("some", "others", "z")), "one z -> z when some others in z"),
            (("two", "x", "x", "z", "x"), "two xx -> zx"),
            (("two", "x", "z", "z", "z"), "two xz -> zz"),
            (("call", "x", "z", "zx"), "call x -> z by zx"),
            (("call", "z", "z", "xx"), "call z -> z by xx"),
        ):
            world = ("xz", "row", (rule,), "x.*", "z")
            text = f"letters xz\nrow\n{line}\nbegin x.*\nbad z\n"
            self.assertEqual(show_world(world), text)
            self.assertEqual(read_world(text), world)

    def check(self, world):
        text = show_world(world)
        self.assertIs(type(text), str)
        self.assertEqual(len(text.split("\n")), len(world[2]) + 5)
        told = read_world(text)
        self.assertEqual(told, world)
        self.assertIs(is_world(told), True)
        self.assertEqual(repr(told), repr(world))
        self.assertEqual(show_world(told), text)

    def test_read_back(self):
        for world in any_worlds(71, 300, 8):
            self.check(world)

    def test_read_back_each_kind(self):
        chance = Random(72)
        for letters in ALL_LETTERS:
            for shape in SHAPES:
                for kind in kinds_of(shape):
                    rules = (any_rule(chance, letters, kind), any_rule(chance, letters, kind))
                    self.check((letters, shape, rules, letters[0], letters[-1]))

    def test_no_rules_and_many(self):
        chance = Random(73)
        for many in (0, 1, 8, 9):
            for letters in ALL_LETTERS:
                self.check(any_world(chance, letters, "row", many))

    def test_rules_in_order_and_alike(self):
        rules = (("one", "x", "z", None), ("two", "x", "x", "z", "z"), ("one", "x", "z", None))
        self.check(("xz", "row", rules, "x", "z"))
        self.check(("xz", "row", rules[::-1], "x", "z"))
        self.assertNotEqual(show_world(("xz", "row", rules, "x", "z")),
                            show_world(("xz", "row", (rules[1], rules[0], rules[2]), "x", "z")))


class Refused(unittest.TestCase):
    def refused(self, text):
        with self.assertRaises(NoWorld, msg=repr(text)) as caught:
            read_world(text)
        self.assertIsInstance(caught.exception, HandsError)

    def refused_or_read_back(self, text):
        """Of a text that may be another world's: it is refused, or it is just what is written of that world."""
        try:
            world = read_world(text)
        except NoWorld:
            return False
        self.assertIs(is_world(world), True)
        self.assertEqual(show_world(world), text)
        return True

    def test_a_line_left_out_or_told_twice(self):
        for text in (TEXT, RING_TEXT):
            lines = text.splitlines(keepends=True)
            for at, line in enumerate(lines):
                less = "".join(lines[:at] + lines[at + 1:])
                more = "".join(lines[:at + 1] + lines[at:])
                if line.split()[0] in ("one", "two", "call"):
                    # Rules may lack and may be alike.
                    self.assertEqual(show_world(read_world(less)), less)
                    self.assertEqual(show_world(read_world(more)), more)
                else:
                    self.refused(less)
                    self.refused(more)

    def test_a_line_put_in(self):
        lines = TEXT.splitlines(keepends=True)
        for line in ("", " ", "row", "ring", "letters abc", "begin a", "bad a", "one", "one a -> d", "rule a -> b", "#", "end",
                     "one a -> b when", "two a -> b", "two abc -> cba", "call a -> b", "call a -> b by", "call a -> b by ab",
                     "a", "three abc -> bca"):
            for at in range(len(lines) + 1):
                self.refused("".join(lines[:at] + [line + "\n"] + lines[at:]))

    def test_lines_exchanged(self):
        lines = TEXT.splitlines(keepends=True)
        for one in range(len(lines)):
            for other in range(one):
                mixed = list(lines)
                mixed[one], mixed[other] = mixed[other], mixed[one]
                if {one, other} <= set(range(2, 9)):
                    self.assertEqual(show_world(read_world("".join(mixed))), "".join(mixed))
                else:
                    self.refused("".join(mixed))

    def test_blanks(self):
        for text in (TEXT, RING_TEXT):
            for at in range(len(text) + 1):
                self.refused(text[:at] + " " + text[at:])
                self.refused(text[:at] + "\t" + text[at:])
                if at < len(text) and text[at] == " ":
                    self.refused(text[:at] + text[at + 1:])
                    self.refused(text[:at] + "\t" + text[at + 1:])
                    self.refused(text[:at] + "\n" + text[at + 1:])

    def test_line_feeds(self):
        for text in (TEXT, RING_TEXT):
            self.refused(text[:-1])
            self.refused(text + "\n")
            self.refused("\n" + text)
            self.refused(text.replace("\n", "\r\n"))
            self.refused(text.replace("\n", "\r"))
            self.refused(text.replace("\n", " "))
            self.refused(text.replace("\n", "\n\n"))
            self.refused(text + text)
            for at, sign in enumerate(text):
                self.refused(text[:at] + "\n" + text[at:])
                if sign == "\n":
                    for other in (" ", "\r", "\x0b", "\x0c", "\x85", "\u2028", "", ";", "\\n"):
                        self.refused(text[:at] + other + text[at + 1:])

    def test_a_sign_left_out_put_in_or_exchanged(self):
        read_back = 0
        for text in (TEXT, RING_TEXT):
            for at in range(len(text) + 1):
                read_back += self.refused_or_read_back(text[:at] + text[at + 1:])
                for sign in "abcdxz .[]*+|->\nAB1":
                    if sign != text[at:at + 1]:
                        read_back += self.refused_or_read_back(text[:at] + sign + text[at + 1:])
                    read_back += self.refused_or_read_back(text[:at] + sign + text[at:])
        # Letters of rules, and signs of patterns, may be others; but these are few.
        self.assertGreater(read_back, 50)
        self.assertLess(read_back, 400)

    def test_words_exchanged(self):
        for word in ("letters", "row", "one", "two", "call", "->", "when", "in", "by", "begin", "bad", "left", "right",
                     "others", "all", "some"):
            for other in {word.upper(), word.capitalize(), word + "s", word[:-1], "", "is"} - {word}:
                self.refused(TEXT.replace(word, other, 1))
        for word, other in (("row", "ring"), ("one a", "two a"), ("two ab", "one ab"), ("call", "one"), ("left", "both"),
                            ("begin", "bad"), ("bad", "begin"), ("all", "any"), ("->", "<-"), ("->", "- >"), ("->", "to")):
            self.refused(TEXT.replace(word, other, 1))

    def test_parts_that_are_none(self):
        for old, new in (
            ("letters abc", "letters "), ("letters abc", "letters"), ("letters abc", "letters acb"),
            ("letters abc", "letters aabc"), ("letters abc", "letters abcdef"), ("letters abc", "letters ABC"),
            ("letters abc", "letters ab"), ("letters abc", "letters a b c"), ("letters abc", "abc"),
            ("one a -> b\n", "one a -> d\n"), ("one a -> b\n", "one ab -> b\n"), ("one a -> b\n", "one a -> \n"),
            ("one a -> b\n", "one -> b\n"), ("one a -> b\n", "one a b\n"), ("one a -> b\n", "a -> b\n"),
            ("one a -> b\n", "one a -> b when\n"), ("one a -> b\n", "one a -> b if all left in ab\n"),
            ("left in ab", "left in ba"), ("left in ab", "left in aab"), ("left in ab", "left in "),
            ("left in ab", "left in"), ("left in ab", "left in d"), ("left in ab", "left ab"), ("left in ab", "in ab"),
            ("left in ab", "left in a b"), ("left in ab", "left in ab and"), ("left in ab", "left of ab"),
            ("two ab -> ba", "two a -> b"), ("two ab -> ba", "two abc -> ba"), ("two ab -> ba", "two ab -> bad"),
            ("two ab -> ba", "two a b -> b a"), ("two ab -> ba", "two ab -> bd"), ("two ab -> ba", "two ab ba"),
            ("two ab -> ba", "two ab -> ba when all left in a"), ("two ab -> ba", "two ab -> ba by abc"),
            ("by aac", "by aa"), ("by aac", "by aaca"), ("by aac", "by aad"), ("by aac", "by "), ("by aac", "by"),
            ("by aac", "when all left in a"), ("by aac", "by a a c"), ("call a", "call d"),
            ("begin a[bc]*", "begin "), ("begin a[bc]*", "begin"), ("begin a[bc]*", "begin [bc]*"),
            ("begin a[bc]*", "begin a[cb]*"), ("begin a[bc]*", "begin d"), ("begin a[bc]*", "begin a|"),
            ("begin a[bc]*", "begin aaaaaaaaa"), ("begin a[bc]*", "begin a b"),
            ("bad .*bb.*|c+", "bad .*"), ("bad .*bb.*|c+", "bad c+|a*"), ("bad .*bb.*|c+", "bad"),
            ("bad .*bb.*|c+", "bad (a)"), ("bad .*bb.*|c+", "bad a\nbad b"),
        ):
            self.assertEqual(TEXT.count(old), 1, old)
            self.refused(TEXT.replace(old, new))

    def test_left_and_right_in_a_ring(self):
        for where in ("left", "right"):
            line = f"one x -> z when all {where} in x\n"
            self.refused(RING_TEXT.replace("begin", line + "begin"))
            read_world(RING_TEXT.replace("ring", "row").replace("begin", line + "begin"))
        read_world(RING_TEXT.replace("begin", "one x -> z when all others in x\nbegin"))

    def test_short_texts(self):
        for text in ("", "\n", "\n\n\n\n", "\n" * 10, " ", "letters a\n", "letters a\nrow\n", "letters a\nrow\nbegin a\n",
                     "letters a\nrow\nbad a\n", "letters a\nbegin a\nbad a\n", "row\nbegin a\nbad a\n", "ok", "letters",
                     "letters a row begin a bad a", "None", "('a', 'row', (), 'a', 'a')"):
            self.refused(text)
        read_world("letters a\nrow\nbegin a\nbad a\n")

    def test_long_texts(self):
        for text in ("one a -> b\n" * 20000, "letters a\n" * 20000, " " * 100000, "\n" * 100000, "a" * 100000,
                     "letters a\nrow\n" + "one a -> a\n" * 1000 + "begin a*\nbad a\n"):
            self.refused(text)

    def test_other_signs(self):
        for sign in "\u00e9\u0430\uff41\x00\u2028\ud800~_":
            for word in ("abc", "row", "one", "->", "a[bc]*"):
                self.refused(TEXT.replace(word, sign, 1))
                self.refused(TEXT.replace(word, word + sign, 1))

    def test_things_that_are_no_text(self):
        for thing in (None, 0, True, b"", TEXT.encode(), [], [TEXT], (), WORLD, RING, {}, object()):
            self.refused(thing)

    def test_a_refusal_changes_nothing(self):
        first = read_world(TEXT)
        self.refused(TEXT + "bad a\n")
        self.assertEqual(read_world(TEXT), first)


if __name__ == "__main__":
    unittest.main()
