"""What the tests share: words, chance that is always the same, and plain other ways to the same answers."""

from itertools import product
from random import Random


def words_up_to(letters, length):
    """All words of at most so many letters, in the order of words."""
    return [word for many in range(length + 1) for word in all_words(letters, many)]


def all_words(letters, length):
    return ["".join(signs) for signs in product(letters, repeat=length)]


def reads(machine, word):
    """Whether a machine has a word, straight from point 4."""
    letters, table, ends = machine
    state = 0
    for letter in word:
        state = table[state][letters.index(letter)]
    return state in ends


def any_machine(chance, letters, many):
    """A machine of so many states, by chance; some states may never be come to."""
    table = tuple(tuple(chance.randrange(many) for _ in letters) for _ in range(many))
    ends = tuple(state for state in range(many) if chance.randrange(3) == 0)
    return letters, table, ends


def any_machines(seed, many_machines, sizes=(1, 2, 3, 5, 8)):
    chance = Random(seed)
    for turn in range(many_machines):
        letters = ("a", "ab", "abc", "bdxz", "abcde")[turn % 5]
        yield any_machine(chance, letters, chance.choice(sizes))


def any_pairs(seed, many_pairs, sizes=(1, 2, 3, 5, 8)):
    chance = Random(seed)
    for one in any_machines(seed, many_pairs, sizes):
        yield one, any_machine(chance, one[0], chance.choice(sizes))


def any_word(chance, letters, length):
    return "".join(chance.choice(letters) for _ in range(length))


def cycle(many, ends=(0,), letters="a"):
    """A machine that goes round so many states by each letter."""
    return letters, tuple(((state + 1) % many,) * len(letters) for state in range(many)), ends


def no_words(letters):
    return letters, ((0,) * len(letters),), ()


def every_word(letters):
    return letters, ((0,) * len(letters),), (0,)


def disguised(chance, machine):
    """Another machine of the same words: each state twice over, in another order, some never come to."""
    letters, table, ends = machine
    copies = [(state, side) for state in range(len(table)) for side in (0, 1)]
    copies += [(chance.randrange(len(table)), 2 + extra) for extra in range(3)]
    first = copies.pop(copies.index((0, 0)))
    chance.shuffle(copies)
    copies = [first] + copies
    place = {copy: at for at, copy in enumerate(copies)}
    rows = [tuple(place[target, chance.randrange(2)] for target in table[state]) for state, side in copies]
    stops = tuple(at for at, (state, side) in enumerate(copies) if state in ends)
    return letters, tuple(rows), stops


def check_kinds(case, machine):
    """That a told machine is built just as point 4 tells, of tuples, texts and whole numbers themselves."""
    case.assertIs(type(machine), tuple)
    case.assertEqual(len(machine), 3)
    letters, table, ends = machine
    case.assertIs(type(letters), str)
    case.assertIs(type(table), tuple)
    case.assertGreater(len(table), 0)
    for row in table:
        case.assertIs(type(row), tuple)
        case.assertEqual(len(row), len(letters))
        for state in row:
            case.assertIs(type(state), int)
            case.assertTrue(0 <= state < len(table))
    case.assertIs(type(ends), tuple)
    for state in ends:
        case.assertIs(type(state), int)
        case.assertTrue(0 <= state < len(table))
    case.assertEqual(list(ends), sorted(set(ends)))


def first_come_to(machine):
    """The states in the order in which words, in their order, come to them."""
    found = [0]
    for state in found:
        for target in machine[1][state]:
            if target not in found:
                found.append(target)
    return found


def classes_by_rounds(machine):
    """How many states have unlike words ahead of them: told apart by one letter more in each round."""
    letters, table, ends = machine
    names = [state in ends for state in range(len(table))]
    many = len(set(names))
    while True:
        looks = [(names[state],) + tuple(names[target] for target in table[state]) for state in range(len(table))]
        numbers = {look: number for number, look in enumerate(sorted(set(looks)))}
        names = [numbers[look] for look in looks]
        if len(numbers) == many:
            return many
        many = len(numbers)


def check_least(case, machine):
    """That a told machine is one of point 4 and least as point 6 tells."""
    check_kinds(case, machine)
    case.assertEqual(first_come_to(machine), list(range(len(machine[1]))))
    case.assertEqual(classes_by_rounds(machine), len(machine[1]))


# How long words are tried, by the number of letters, so that there are some hundreds of them.
LENGTHS = {1: 60, 2: 8, 3: 5, 4: 4, 5: 4}


def tried_words(letters, seed=1):
    """All short words of the letters, and some of up to forty letters."""
    chance = Random(seed)
    return words_up_to(letters, LENGTHS[len(letters)]) + [any_word(chance, letters, length) for length in range(9, 41)]
