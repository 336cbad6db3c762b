"""Papers: answers with what shows them, and denials, which say no."""


def fixed(value):
    """The value with tuples in the place of lists, all the way in."""
    if isinstance(value, (list, tuple)):
        return tuple([fixed(part) if isinstance(part, (list, tuple)) else part for part in value])
    return value


def are_alike(one, other):
    """Whether two papers have one class, equal words and equal parts."""
    return type(one) is type(other) and one.word == other.word and one.parts == other.parts


class Paper:
    """A paper: true, with a word and parts."""

    def __init__(self, word, *parts):
        self.word = fixed(word)
        self.parts = fixed(parts)

    def __eq__(self, other):
        return isinstance(other, Paper) and are_alike(self, other)

    def __bool__(self):
        return True


class Denial(Paper):
    """A paper that says no: false."""

    def __init__(self, word, *parts):
        Paper.__init__(self, word, *parts)

    def __eq__(self, other):
        return isinstance(other, Denial) and are_alike(self, other)

    def __bool__(self):
        return False
