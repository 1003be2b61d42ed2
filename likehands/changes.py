"""Worlds changed: mirrored, with letters called otherwise, made coarser, and without some rules."""

from likehands.errors import NoMap

MIRRORED_PLACES = {"left": "right", "right": "left", "others": "others"}


def mirrored(world):
    """A world from behind."""
    letters, shape, rules, begin, bad = world
    turned = tuple([mirrored_rule(rule) for rule in rules])
    return letters, shape, turned, mirrored_pattern(begin), mirrored_pattern(bad)


def mirrored_rule(rule):
    """A rule with left and right exchanged."""
    if rule[0] == "two":
        kind, x, y, u, v = rule
        return kind, y, x, v, u
    kind, x, y, more = rule
    if kind == "one" and more is not None:
        how, where, some = more
        return kind, x, y, (how, MIRRORED_PLACES[where], some)
    return rule


def mirrored_pattern(pattern):
    """A pattern with the items of each branch from behind."""
    return "|".join(["".join(items_in(branch)[::-1]) for branch in pattern.split("|")])


def items_in(branch):
    """The texts of a branch's items, each with its mark."""
    items = []
    at = 0
    while at < len(branch):
        end = branch.find("]", at) + 1 if branch[at] == "[" else at + 1
        if end < len(branch) and branch[end] in "*+":
            end += 1
        items.append(branch[at:end])
        at = end
    return items


def renamed(world, names):
    """A world with its letters called otherwise, by a text of one for each; NoMap of what is no such text."""
    letters = world[0]
    if not is_names(letters, names) or len(set(names)) != len(letters):
        raise NoMap("names are as many unlike small letters as the world has")
    return mapped(world, names)


def coarser(world, names):
    """A world in which letters fall together; NoMap of what is no text of one for each, and of calls that part them."""
    if not is_names(world[0], names):
        raise NoMap("names are as many small letters as the world has")
    return mapped(world, names)


def is_names(letters, thing):
    """Whether a thing is a text of as many small letters as there are letters."""
    return isinstance(thing, str) and len(thing) == len(letters) and all(["a" <= sign <= "z" for sign in thing])


def mapped(world, names):
    """A world with the letters of a text, perhaps alike, in the place of its own."""
    letters, shape, rules, begin, bad = world
    calls = {letter: name for letter, name in zip(letters, names)}
    changed = tuple([mapped_rule(rule, letters, calls) for rule in rules])
    return rising(names), shape, changed, mapped_pattern(begin, calls), mapped_pattern(bad, calls)


def rising(signs):
    """Letters as a text, each once, rising."""
    return "".join(sorted(set(signs)))


def mapped_text(text, calls):
    """A text with its letters called otherwise; all other signs stay."""
    return "".join([calls.get(sign, sign) for sign in text])


def mapped_rule(rule, letters, calls):
    """A rule with its letters called otherwise."""
    if rule[0] == "two":
        kind, x, y, u, v = rule
        return kind, calls[x], calls[y], calls[u], calls[v]
    kind, x, y, more = rule
    if kind == "call":
        return kind, calls[x], calls[y], mapped_image(more, letters, calls)
    if more is None:
        return kind, calls[x], calls[y], None
    how, where, some = more
    return kind, calls[x], calls[y], (how, where, rising(mapped_text(some, calls)))


def mapped_image(image, letters, calls):
    """A call's image for the new letters; NoMap where letters that fall together are turned to such as do not."""
    turns = {}
    for letter, other in zip(letters, image):
        name = calls[letter]
        if turns.setdefault(name, calls[other]) != calls[other]:
            raise NoMap("a call turns letters that fall together to unlike ones")
    return "".join([turns[name] for name in sorted(turns)])


def mapped_pattern(pattern, calls):
    """A pattern with its letters called otherwise, in brackets each once and rising."""
    return "|".join(["".join([mapped_item(item, calls) for item in items_in(branch)]) for branch in pattern.split("|")])


def mapped_item(item, calls):
    """An item with its letters called otherwise."""
    if item[0] != "[":
        return mapped_text(item, calls)
    signs, close, mark = item[1:].partition("]")
    return "[" + rising(mapped_text(signs, calls)) + "]" + mark


def lacking(world, numbers):
    """A world without the rules of some numbers."""
    letters, shape, rules, begin, bad = world
    left = [rule for number, rule in enumerate(rules) if number not in numbers]
    return letters, shape, tuple(left), begin, bad
