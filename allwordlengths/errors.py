"""The errors of the package.

Their messages are fixed texts and do not show the field: a field may be any value, also one that cannot be shown.
"""


class WordsError(ValueError):
    """What all errors of the package are."""


class BadText(WordsError):
    def __init__(self, text):
        super().__init__("this is not a text that can be read here")
        self.text = text


class BadStep(WordsError):
    def __init__(self, index):
        super().__init__("the member or part with this index is not a step")
        self.index = index


class BadNumber(WordsError):
    def __init__(self, number):
        super().__init__("this is not a number that can stand here")
        self.number = number


class BadSize(WordsError):
    def __init__(self, size):
        super().__init__("this is not a size that can stand here")
        self.size = size


class BadBits(WordsError):
    def __init__(self, index):
        super().__init__("the member with this index is not a bit")
        self.index = index


class BadLetter(WordsError):
    def __init__(self, letter):
        super().__init__("this is not one of the letters")
        self.letter = letter


class TooMany(WordsError):
    def __init__(self, most):
        super().__init__("there are more than may be")
        self.most = most


class TooLarge(WordsError):
    def __init__(self, most):
        super().__init__("this is larger than may be")
        self.most = most


class NothingToUndo(WordsError):
    """There is no deed that can be taken back."""


class NotMoves(WordsError):
    def __init__(self, index):
        super().__init__("the step with this index is neither a move nor a flip")
        self.index = index


class BadChoice(WordsError):
    def __init__(self, choice):
        super().__init__("this is not a choice of places")
        self.choice = choice


class BadPlace(WordsError):
    def __init__(self, place):
        super().__init__("this is not a place that can stand here")
        self.place = place


class BadLook(WordsError):
    def __init__(self, index):
        super().__init__("the look with this index is not one")
        self.index = index


class BadName(WordsError):
    def __init__(self, name):
        super().__init__("this is not a name")
        self.name = name


class NoName(WordsError):
    def __init__(self, name):
        super().__init__("there is nothing under this name")
        self.name = name


class BadLine(WordsError):
    def __init__(self, number):
        super().__init__("the line with this number cannot be read")
        self.number = number


class NothingToRedo(WordsError):
    """There is no deed that can be done again."""
