"""Worlds: which ones there are, how they are written by lines, and how such a text is read."""

from likehands.errors import NoPattern, NoWorld
from likehands.machines import has, is_letters, rises
from likehands.patterns import machine_of

SHAPES = ("row", "ring")
HOWS = ("all", "some")
ROW_PLACES = ("left", "right", "others")
RING_PLACES = ("others",)


def is_world(thing):
    """Whether a thing, of any kind, is a world."""
    if not isinstance(thing, tuple) or len(thing) != 5:
        return False
    letters, shape, rules, begin, bad = thing
    if not is_letters(letters) or not is_one_of(shape, SHAPES) or not isinstance(rules, tuple):
        return False
    if not all([is_rule(letters, shape, rule) for rule in rules]):
        return False
    return is_of_hands(letters, begin) and is_of_hands(letters, bad)


def is_one_of(thing, texts):
    """Whether a thing is one of some texts; things of other kinds may not let themselves be compared."""
    return isinstance(thing, str) and thing in texts


def is_of_hands(letters, thing):
    """Whether a thing is a pattern of which the empty word is not."""
    try:
        machine = machine_of(letters, thing)
    except NoPattern:
        return False
    return not has(machine, "")


def is_rule(letters, shape, thing):
    """Whether a thing is a rule of a world with these letters and this shape."""
    if not isinstance(thing, tuple) or len(thing) < 4 or not isinstance(thing[0], str):
        return False
    if not is_letter(letters, thing[1]) or not is_letter(letters, thing[2]):
        return False
    if len(thing) == 5:
        return thing[0] == "two" and is_letter(letters, thing[3]) and is_letter(letters, thing[4])
    if len(thing) != 4:
        return False
    if thing[0] == "one":
        return thing[3] is None or is_guard(letters, shape, thing[3])
    return thing[0] == "call" and is_image(letters, thing[3])


def is_letter(letters, thing):
    """Whether a thing is one of the letters."""
    return isinstance(thing, str) and len(thing) == 1 and thing in letters


def is_guard(letters, shape, thing):
    """Whether a thing is a guard of a rule of one hand."""
    if not isinstance(thing, tuple) or len(thing) != 3:
        return False
    how, where, some = thing
    places = ROW_PLACES if shape == "row" else RING_PLACES
    if not is_one_of(how, HOWS) or not is_one_of(where, places):
        return False
    return is_text_of(letters, some) and some != "" and rises(some)


def is_image(letters, thing):
    """Whether a thing tells a letter for each of the letters."""
    return is_text_of(letters, thing) and len(thing) == len(letters)


def is_text_of(letters, thing):
    """Whether a thing is a text of the letters alone."""
    return isinstance(thing, str) and all([sign in letters for sign in thing])


def show_world(world):
    """The text of a world."""
    letters, shape, rules, begin, bad = world
    lines = ["letters " + letters, shape]
    lines += [show_rule(rule) for rule in rules]
    lines += ["begin " + begin, "bad " + bad]
    return "".join([line + "\n" for line in lines])


def show_rule(rule):
    """The line of a rule."""
    if rule[0] == "two":
        kind, x, y, u, v = rule
        return f"two {x}{y} -> {u}{v}"
    kind, x, y, more = rule
    if kind == "call":
        return f"call {x} -> {y} by {more}"
    if more is None:
        return f"one {x} -> {y}"
    how, where, some = more
    return f"one {x} -> {y} when {how} {where} in {some}"


def read_world(text):
    """The world of a text; NoWorld of any text but a world's own.

    The lines are only taken apart here. That the parts are a world's, and that
    just this text is written of it, shows that nothing else stood there.
    """
    if not isinstance(text, str):
        raise NoWorld("a world is read from a text")
    lines = text.split("\n")
    if len(lines) < 5:
        raise NoWorld("a world has four lines or more, each with a line feed behind")
    rules = [read_rule(line) for line in lines[2:-3]]
    world = (behind_blank(lines[0]), lines[1], tuple(rules), behind_blank(lines[-3]), behind_blank(lines[-2]))
    if not is_world(world) or show_world(world) != text:
        raise NoWorld("this is no world's text")
    return world


def behind_blank(line):
    """What stands behind the first blank of a line."""
    return line.partition(" ")[2]


def read_rule(line):
    """The rule that a line seems to tell; its letters and words are looked at later."""
    parts = line.split(" ")
    if len(parts) < 4:
        raise NoWorld("a rule's line has four words or more")
    x = parts[1]
    y = parts[3]
    if len(parts) == 9:
        return "one", x, y, (parts[5], parts[6], parts[8])
    if len(parts) == 6:
        return "call", x, y, parts[5]
    if parts[0] == "one":
        return "one", x, y, None
    if len(x) != 2 or len(y) != 2:
        raise NoWorld("a rule of two hands has two letters on each side")
    return "two", x[0], x[1], y[0], y[1]
