"""All errors of the package: direct subclasses of one base class."""


class TripError(Exception):
    """The base class of all errors of the package."""


class BadNumber(TripError):
    """The value is not an integer of the range that is asked for."""

    def __init__(self, thing):
        self.thing = thing


class BadWall(TripError):
    """The value is not a wall of the width."""

    def __init__(self, thing):
        self.thing = thing


class BadWalls(TripError):
    """The value is not a tuple of walls of the width."""

    def __init__(self, thing):
        self.thing = thing


class NotRoomy(TripError):
    """No point keeps all walls but those of zeros strictly."""


class BadKind(TripError):
    """The value is not a kind."""

    def __init__(self, thing):
        self.thing = thing


class BadIns(TripError):
    """The value is not the inputs of a program."""

    def __init__(self, thing):
        self.thing = thing


class BadFacts(TripError):
    """The value is not the facts of a program."""

    def __init__(self, thing):
        self.thing = thing


class BadBody(TripError):
    """The value is not a tuple of at most 24 statements."""

    def __init__(self, thing):
        self.thing = thing


class BadStatement(TripError):
    """The item with this number is not a statement that can stand there."""

    def __init__(self, number):
        self.number = number


class BadOuts(TripError):
    """The value is not the outs of a program."""

    def __init__(self, thing):
        self.thing = thing


class BadProgram(TripError):
    """The value is not a program."""

    def __init__(self, thing):
        self.thing = thing


class BadText(TripError):
    """The line with this number cannot stand there; 0 for what is not a text."""

    def __init__(self, at):
        self.at = at


class BadBound(TripError):
    """The value is not a bound."""

    def __init__(self, thing):
        self.thing = thing


class BadGiven(TripError):
    """The value is not the given integers of a run."""

    def __init__(self, thing):
        self.thing = thing


class BadForms(TripError):
    """The value is not held forms, or not a held form."""

    def __init__(self, thing):
        self.thing = thing


class NotSingle(TripError):
    """A program is not single."""


class Unlike(TripError):
    """The second program has other inputs, facts or numbers of outs."""

    def __init__(self, thing):
        self.thing = thing


class TooWide(TripError):
    """The statement with this number needs a kind that is too wide."""

    def __init__(self, number):
        self.number = number


class BadWanted(TripError):
    """The value is not a wanted."""

    def __init__(self, thing):
        self.thing = thing


class BadTree(TripError):
    """The value is not a tree of as many items."""

    def __init__(self, thing):
        self.thing = thing


class BadItems(TripError):
    """The value is not items of a bracketed sum."""

    def __init__(self, thing):
        self.thing = thing


class OtherItems(TripError):
    """Two rounds have other items."""


class BadRounds(TripError):
    """The value is not rounds."""

    def __init__(self, thing):
        self.thing = thing


class TooMany(TripError):
    """There would be more than the most that are allowed."""

    def __init__(self, most):
        self.most = most


class BadPass(TripError):
    """The value is not a pass."""

    def __init__(self, thing):
        self.thing = thing


class NoPlace(TripError):
    """The pass or the rule does not go at this number."""

    def __init__(self, number):
        self.number = number


class BadRule(TripError):
    """The value is not a rule."""

    def __init__(self, thing):
        self.thing = thing


class BadName(TripError):
    """The value is not a label."""

    def __init__(self, thing):
        self.thing = thing


class NoName(TripError):
    """The value is not a label of the bench."""

    def __init__(self, thing):
        self.thing = thing


class NameTaken(TripError):
    """The label stands for a program already."""

    def __init__(self, thing):
        self.thing = thing


class InUse(TripError):
    """A promise has the label."""

    def __init__(self, thing):
        self.thing = thing


class BadPromise(TripError):
    """The value is not a promise that can be given."""

    def __init__(self, thing):
        self.thing = thing


class NoPromise(TripError):
    """The value is not a promise that is given."""

    def __init__(self, thing):
        self.thing = thing


class Unkept(TripError):
    """A promise is not kept, as its fault shows."""

    def __init__(self, promise, fault):
        self.promise = promise
        self.fault = fault


class BadEdit(TripError):
    """The edit with this number cannot be made; -1 for what is no deal."""

    def __init__(self, number):
        self.number = number


class NothingToUndo(TripError):
    """There is no deal to undo."""


class NothingToRedo(TripError):
    """There is no deal to do again."""
