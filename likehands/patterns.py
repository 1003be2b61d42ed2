"""Patterns: texts that stand for words, and the machines of these words."""

from likehands.building import built
from likehands.errors import NoPattern
from likehands.machines import rises

MOST_ITEMS = 8


def machine_of(letters, pattern):
    """The least machine of the words that are of a pattern for some letters; NoPattern of what is none."""
    places, starts = places_of(branches_of(letters, pattern))

    def follow(held):
        return [read(places, held, letter) for letter in letters]

    def is_end(held):
        return any([places[at][0] == "" for at in held])

    return built(letters, let_on(places, starts), follow, is_end)


def branches_of(letters, pattern):
    """The branches of a pattern, each a list of its items."""
    if not isinstance(pattern, str):
        raise NoPattern("a pattern is a text")
    branches = [items_of(letters, branch) for branch in pattern.split("|")]
    if sum([len(items) for items in branches]) > MOST_ITEMS:
        raise NoPattern("a pattern has at most eight items")
    return branches


def items_of(letters, branch):
    """The items of a branch: tuples of the letters of which one is read, and the mark behind, perhaps none."""
    if branch == "":
        raise NoPattern("a branch has one item or more")
    items = []
    at = 0
    while at < len(branch):
        signs, at = choice_at(letters, branch, at)
        mark = mark_at(branch, at)
        at += len(mark)
        items.append((signs, mark))
    return items


def choice_at(letters, branch, at):
    """The letters that the item at a place stands for, and the place behind it, where its mark may stand."""
    sign = branch[at]
    if sign == ".":
        return letters, at + 1
    if sign == "[":
        return bracket_at(letters, branch, at)
    if sign not in letters:
        raise NoPattern("an item begins with a letter, a point or a bracket")
    return sign, at + 1


def bracket_at(letters, branch, at):
    """The letters in the brackets that begin at a place, and the place behind these."""
    close = branch.find("]", at)
    if close < 0:
        raise NoPattern("a bracket is not closed")
    signs = branch[at + 1:close]
    if signs == "" or not rises(signs) or not all([sign in letters for sign in signs]):
        raise NoPattern("in brackets stand one or more of the letters, rising")
    return signs, close + 1


def mark_at(branch, at):
    """The star or plus at a place, or the empty text."""
    if at < len(branch) and branch[at] in "*+":
        return branch[at]
    return ""


def places_of(branches):
    """The places at which reading may stand, and the numbers of those where branches begin.

    A place is a tuple of the letters that may be read there and whether reading
    may stay there, and so go on without a letter, too. An item with a plus is
    read as itself, then as itself with a star. The place behind a branch has no letters.
    """
    places = []
    starts = []
    for items in branches:
        starts.append(len(places))
        for signs, mark in items:
            if mark != "*":
                places.append((signs, False))
            if mark != "":
                places.append((signs, True))
        places.append(("", False))
    return places, starts


def read(places, held, letter):
    """The numbers of the places where reading may stand behind a letter."""
    reached = []
    for at in held:
        signs, stays = places[at]
        if letter in signs:
            reached.append(at if stays else at + 1)
    return let_on(places, reached)


def let_on(places, numbers):
    """The told numbers of places and those that come from them without a letter, rising, each once."""
    found = {}
    for number in numbers:
        at = number
        found[at] = True
        while places[at][1]:
            at += 1
            found[at] = True
    return tuple(sorted(found))
