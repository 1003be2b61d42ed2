"""The refusals of the program."""


class HandsError(ValueError):
    """Any refusal."""


class NoPattern(HandsError):
    """What should be a pattern for some letters is none."""


class NoWorld(HandsError):
    """What should be a world's text is none."""


class NoMap(HandsError):
    """What should be a map of a world's letters is none, or its calls do not go with it."""


class NoStory(HandsError):
    """What should be a story of a world's run is none."""


class NoRow(HandsError):
    """What should be a row for the desk is none."""
