"""Steps: the words that come of a word by a rule, and by the rules of a world."""


def after(letters, shape, rule, word):
    """The words that come of a word by a rule in one step, rising, each once."""
    return sorted({other for place, other in made_at(letters, shape, rule, word)})


def made_at(letters, shape, rule, word):
    """The pairs of a place (of two hands the first one's) at which a rule goes and the word that it makes, rising."""
    if rule[0] == "one":
        return made_by_one(rule, word)
    if rule[0] == "two":
        return made_by_two(shape, rule, word)
    return made_by_call(letters, rule, word)


def made_by_one(rule, word):
    """The places and words where one hand goes by itself."""
    kind, x, y, guard = rule
    made = []
    for at, letter in enumerate(word):
        if letter == x and holds(guard, word, at):
            made.append((at, word[:at] + y + word[at + 1:]))
    return made


def holds(guard, word, at):
    """Whether a guard, perhaps None, lets the hand at a place go."""
    if guard is None:
        return True
    how, where, some = guard
    left = word[:at] if where != "right" else ""
    right = word[at + 1:] if where != "left" else ""
    hits = [letter in some for letter in left + right]
    return all(hits) if how == "all" else any(hits)


def made_by_two(shape, rule, word):
    """The places and words where two neighbours go at once."""
    kind, x, y, u, v = rule
    made = []
    for first, second in pairs_of(shape, len(word)):
        if word[first] == x and word[second] == y:
            signs = list(word)
            signs[first] = u
            signs[second] = v
            made.append((first, "".join(signs)))
    return made


def pairs_of(shape, number):
    """The pairs of neighbours' places of so many hands, rising."""
    pairs = [(at, at + 1) for at in range(number - 1)]
    if shape == "ring" and number > 1:
        pairs.append((number - 1, 0))
    return pairs


def made_by_call(letters, rule, word):
    """The places and words where all others turn with one hand."""
    kind, x, y, image = rule
    turned = "".join([image[letters.index(letter)] for letter in word])
    return [(at, turned[:at] + y + turned[at + 1:]) for at, letter in enumerate(word) if letter == x]


def steps_of(world, word):
    """The tuples of a rule's number and a word that comes by it, rising."""
    letters, shape, rules, begin, bad = world
    return [(number, other) for number, rule in enumerate(rules) for other in after(letters, shape, rule, word)]
