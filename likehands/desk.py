"""The desk: it has a world or none, is told rows and answers each by a text."""

from likehands.counts import most_of
from likehands.errors import NoRow
from likehands.judge import judged
from likehands.runs import come
from likehands.steps import steps_of
from likehands.stuck import stuck_run
from likehands.worlds import is_text_of, read_world

WORLD_ROW = "world\n"
FIGURES = "12345678"
# For so many hands the judge is asked where a row tells no number.
JUDGED_HANDS = 3


def said_come(world, rest):
    """The words that come for a number of hands."""
    return listed(come(world, number_of(rest)))


def said_steps(world, rest):
    """The steps of a word."""
    if rest == "" or not is_text_of(world[0], rest):
        raise NoRow("a word has one letter of the world or more")
    return listed([f"{number}:{word}" for number, word in steps_of(world, rest)])


def said_judge(world, rest):
    """What the judge tells by a number of hands."""
    answer = judged(world, number_of(rest))
    if answer[0] == "breaks":
        kind, number, run = answer
        return f"breaks {number} " + " ".join(run)
    if answer[0] == "never":
        kind, machine = answer
        return f"never {len(machine[1])}"
    return "open"


def said_stuck(world, rest):
    """The run to a stuck word for a number of hands."""
    run = stuck_run(world, number_of(rest))
    return listed([] if run is None else run)


def said_most(world, rest):
    """The greatest number of a letter in the words of the judge's machine."""
    if len(rest) != 1 or not is_text_of(world[0], rest):
        raise NoRow("a letter is one of the world's")
    answer = judged(world, JUDGED_HANDS)
    if answer[0] != "never":
        raise NoRow("the judge tells no machine of this world")
    most = most_of(answer[1], rest)
    return str(most[0])


def number_of(text):
    """The number of a figure from 1 to 8."""
    if len(text) != 1 or text not in FIGURES:
        raise NoRow("a number is one figure from 1 to 8")
    return int(text)


def listed(texts):
    """Texts parted by blanks, or none."""
    return " ".join(texts) if len(texts) > 0 else "none"


ANSWERS = {"come": said_come, "steps": said_steps, "judge": said_judge, "stuck": said_stuck, "most": said_most}


class Desk:
    """A desk, at first without a world."""

    def __init__(self):
        self.world = None

    def say(self, row):
        """The answer to a row; NoRow of what is none, NoWorld of a world's row with another text."""
        if not isinstance(row, str):
            raise NoRow("a row is a text")
        if row.startswith(WORLD_ROW):
            self.world = read_world(row[len(WORLD_ROW):])
            return "ok"
        head, blank, rest = row.partition(" ")
        if head not in ANSWERS or self.world is None:
            raise NoRow("this is no row, or there is no world yet")
        answer = ANSWERS[head]
        return answer(self.world, rest)
