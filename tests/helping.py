"""What the tests share: words, chance that is always the same, and plain other ways to the same answers."""

import re
from itertools import combinations, product
from random import Random


def words_up_to(letters, length):
    """All words of at most so many letters, in the order of words."""
    return [word for many in range(length + 1) for word in all_words(letters, many)]


def all_words(letters, length):
    return ["".join(signs) for signs in product(letters, repeat=length)]


def by_order(word):
    """By what words are ordered, as point 2 tells."""
    return len(word), word


def reads(machine, word):
    """Whether a machine has a word, straight from point 4."""
    letters, table, ends = machine
    state = 0
    for letter in word:
        state = table[state][letters.index(letter)]
    return state in ends


def any_machine(chance, letters, many):
    """A machine of so many states, by chance; some states may never be come to."""
    table = tuple(tuple(chance.randrange(many) for _ in letters) for _ in range(many))
    ends = tuple(state for state in range(many) if chance.randrange(3) == 0)
    return letters, table, ends


def any_machines(seed, many_machines, sizes=(1, 2, 3, 5, 8)):
    chance = Random(seed)
    for turn in range(many_machines):
        letters = ("a", "ab", "abc", "bdxz", "abcde")[turn % 5]
        yield any_machine(chance, letters, chance.choice(sizes))


def any_pairs(seed, many_pairs, sizes=(1, 2, 3, 5, 8)):
    chance = Random(seed)
    for one in any_machines(seed, many_pairs, sizes):
        yield one, any_machine(chance, one[0], chance.choice(sizes))


def any_word(chance, letters, length):
    return "".join(chance.choice(letters) for _ in range(length))


def cycle(many, ends=(0,), letters="a"):
    """A machine that goes round so many states by each letter."""
    return letters, tuple(((state + 1) % many,) * len(letters) for state in range(many)), ends


def no_words(letters):
    return letters, ((0,) * len(letters),), ()


def every_word(letters):
    return letters, ((0,) * len(letters),), (0,)


def empty_alone(letters):
    """The machine of the empty word alone."""
    width = len(letters)
    return letters, ((1,) * width, (1,) * width), (0,)


def disguised(chance, machine):
    """Another machine of the same words: each state twice over, in another order, some never come to."""
    letters, table, ends = machine
    copies = [(state, side) for state in range(len(table)) for side in (0, 1)]
    copies += [(chance.randrange(len(table)), 2 + extra) for extra in range(3)]
    first = copies.pop(copies.index((0, 0)))
    chance.shuffle(copies)
    copies = [first] + copies
    place = {copy: at for at, copy in enumerate(copies)}
    rows = [tuple(place[target, chance.randrange(2)] for target in table[state]) for state, side in copies]
    stops = tuple(at for at, (state, side) in enumerate(copies) if state in ends)
    return letters, tuple(rows), stops


def check_kinds(case, machine):
    """That a told machine is built just as point 4 tells, of tuples, texts and whole numbers themselves."""
    case.assertIs(type(machine), tuple)
    case.assertEqual(len(machine), 3)
    letters, table, ends = machine
    case.assertIs(type(letters), str)
    case.assertIs(type(table), tuple)
    case.assertGreater(len(table), 0)
    for row in table:
        case.assertIs(type(row), tuple)
        case.assertEqual(len(row), len(letters))
        for state in row:
            case.assertIs(type(state), int)
            case.assertTrue(0 <= state < len(table))
    case.assertIs(type(ends), tuple)
    for state in ends:
        case.assertIs(type(state), int)
        case.assertTrue(0 <= state < len(table))
    case.assertEqual(list(ends), sorted(set(ends)))


def first_come_to(machine):
    """The states in the order in which words, in their order, come to them."""
    found = [0]
    for state in found:
        for target in machine[1][state]:
            if target not in found:
                found.append(target)
    return found


def classes_by_rounds(machine):
    """How many states have unlike words ahead of them: told apart by one letter more in each round."""
    letters, table, ends = machine
    names = [state in ends for state in range(len(table))]
    many = len(set(names))
    while True:
        looks = [(names[state],) + tuple(names[target] for target in table[state]) for state in range(len(table))]
        numbers = {look: number for number, look in enumerate(sorted(set(looks)))}
        names = [numbers[look] for look in looks]
        if len(numbers) == many:
            return many
        many = len(numbers)


def check_least(case, machine):
    """That a told machine is one of point 4 and least as point 6 tells."""
    check_kinds(case, machine)
    case.assertEqual(first_come_to(machine), list(range(len(machine[1]))))
    case.assertEqual(classes_by_rounds(machine), len(machine[1]))


# How long words are tried, by the number of letters, so that there are some hundreds of them.
LENGTHS = {1: 60, 2: 8, 3: 5, 4: 4, 5: 4}


def tried_words(letters, seed=1):
    """All short words of the letters, and some of up to forty letters."""
    chance = Random(seed)
    return words_up_to(letters, LENGTHS[len(letters)]) + [any_word(chance, letters, length) for length in range(9, 41)]


class Unfriendly:
    """It can't be compared, counted, gone through or tested."""

    def refuse(self, *told):
        raise RuntimeError("do not ask")

    __eq__ = __lt__ = __le__ = __gt__ = __ge__ = __len__ = __iter__ = __bool__ = __getitem__ = __contains__ = refuse
    __hash__ = None


# Numbers with a point are left out: of these nothing is promised.
OTHERS = [
    None, True, False, 0, 1, -1, 10 ** 50, "", "0", "No", b"ab", [], {}, set(), frozenset(), range(3), object(),
    int, len, ValueError("x"), (None,), [None], {0: 1}, "(('a',), (), ())", Unfriendly(), iter(()), ...,
]


def any_item(chance, letters):
    """The text of an item and what it stands for."""
    mark = chance.choice(("", "", "*", "+"))
    kind = chance.randrange(3)
    if kind == 0:
        return "." + mark, (letters, mark)
    if kind == 1:
        sign = chance.choice(letters)
        return sign + mark, (sign, mark)
    signs = "".join(sorted(chance.sample(letters, chance.randrange(1, len(letters) + 1))))
    return "[" + signs + "]" + mark, (signs, mark)


def any_pattern(chance, letters, many):
    """The text of a pattern of so many items, and its branches."""
    texts, branches = [[]], [[]]
    for turn in range(many):
        text, item = any_item(chance, letters)
        if turn > 0 and chance.randrange(3) == 0:
            texts.append([])
            branches.append([])
        texts[-1].append(text)
        branches[-1].append(item)
    return "|".join("".join(branch) for branch in texts), branches


SHAPES = ("row", "ring")
ALL_LETTERS = ("a", "ab", "abc", "bdxz", "abcde")
# The greatest numbers of hands for one to five letters: forty, and at most 1,100 words of the letters.
HANDS = {1: 40, 2: 10, 3: 6, 4: 5, 5: 4}


def any_letters(chance, letters):
    """One or more of the letters, unlike and rising."""
    return "".join(sorted(chance.sample(letters, chance.randrange(1, len(letters) + 1))))


def any_goal(chance, letters, many):
    """A pattern of so many items of which the empty word isn't."""
    while True:
        pattern, branches = any_pattern(chance, letters, many)
        if not is_of(pattern, ""):
            return pattern


def is_of(pattern, word):
    """Whether a word is of a pattern: Python's own patterns stand for the same words."""
    return re.fullmatch(pattern, word) is not None


# Each kind of rule, as far as a rule's kind tells how it is gone by.
KINDS = ["one", "two", "call"] + [how + " " + where for how in ("all", "some") for where in ("left", "right", "others")]


def kinds_of(shape):
    return [kind for kind in KINDS if shape == "row" or kind.split()[-1] not in ("left", "right")]


def any_rule(chance, letters, kind):
    """A rule of one of KINDS."""
    first, second, third, fourth = [chance.choice(letters) for _ in range(4)]
    if kind == "one":
        return "one", first, second, None
    if kind == "two":
        return "two", first, second, third, fourth
    if kind == "call":
        return "call", first, second, any_word(chance, letters, len(letters))
    how, where = kind.split()
    return "one", first, second, (how, where, any_letters(chance, letters))


def any_world(chance, letters, shape, many_rules):
    """A world with so many rules."""
    rules = tuple(any_rule(chance, letters, chance.choice(kinds_of(shape))) for _ in range(many_rules))
    return letters, shape, rules, any_goal(chance, letters, 3), any_goal(chance, letters, 4)


def any_worlds(seed, many_worlds, most_rules=4):
    chance = Random(seed)
    for turn in range(many_worlds):
        yield any_world(chance, ALL_LETTERS[turn % 5], chance.choice(SHAPES), chance.randrange(most_rules + 1))


def stepped_at(letters, shape, rule, word, place):
    """The word that a rule makes of a word at a place, straight from points 13 to 15; None where it makes none."""
    hands = dict(enumerate(word))
    if rule[0] == "two":
        beside = place + 1
        if beside == len(word):
            beside = 0
            if shape == "row" or len(word) == 1:
                return None
        if (word[place], word[beside]) != rule[1:3]:
            return None
        hands[place], hands[beside] = rule[3:]
    else:
        if word[place] != rule[1] or rule[0] == "one" and not lets(rule[3], word, place):
            return None
        if rule[0] == "call":
            hands = {at: rule[3][letters.index(hand)] for at, hand in hands.items()}
        hands[place] = rule[2]
    return "".join(hands[at] for at in range(len(word)))


def stepped(letters, shape, rule, word):
    """The set of the words that come of a word by a rule, place by place."""
    return {stepped_at(letters, shape, rule, word, place) for place in range(len(word))} - {None}


def lets(guard, word, place):
    """Whether a guard holds for the hand at a place, straight from point 13."""
    if guard is None:
        return True
    how, where, some = guard
    told = {"left": range(place), "right": range(place + 1, len(word)),
            "others": [at for at in range(len(word)) if at != place]}[where]
    return {"all": all, "some": any}[how](word[at] in some for at in told)


def all_stepped(world, word):
    """The set of the words that come of a word by any rule of a world."""
    return set().union(*[stepped(world[0], world[1], rule, word) for rule in world[2]])


def all_come(world, number):
    """The set of the words that come for a number of hands."""
    found = {word for word in all_words(world[0], number) if is_of(world[3], word)}
    newest = found
    while newest:
        newest = set().union(*[all_stepped(world, word) for word in newest]) - found
        found = found | newest
    return found


def least_list(world, number, is_last):
    """The first shortest list of words from begin to a last one, by the least list of so many words to each word."""
    lists = {word: [word] for word in all_words(world[0], number) if is_of(world[3], word)}
    known = set(lists)
    while True:
        ended = [lists[word] for word in lists if is_last(word)]
        if ended:
            return min(ended)
        longer = {}
        for word in lists:
            for other in all_stepped(world, word):
                longer[other] = min(longer.get(other, lists[word] + [other]), lists[word] + [other])
        if set(longer) <= known:
            return None
        known |= set(longer)
        lists = longer


def struck(word, size):
    """The views of a word: all that is left when letters are struck out, of at most so many letters."""
    return {"".join(signs) for many in range(size + 1) for signs in combinations(word, many)}


def framed(word, size):
    """The windows of a word: its signs, with marks ahead of it and behind it, as many one behind the other as the size."""
    signs = "^" * (size - 1) + word + "$" * (size - 1)
    return {signs[at:at + size] for at in range(len(signs) - size + 1)}


def all_windows(letters, size):
    """All texts of so many letters and marks, also such as are a window of no word."""
    return ["".join(signs) for signs in product("$^" + letters, repeat=size)]
