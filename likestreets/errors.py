"""The errors of the package: each is a direct subclass of one of four base errors."""


class StreetError(ValueError):
    """A value that is passed is not what it should be."""


class InvalidChange(StreetError):
    def __init__(self, value):
        self.value = value


class InvalidExchange(StreetError):
    def __init__(self, value):
        self.value = value


class InvalidHouse(StreetError):
    def __init__(self, value):
        self.value = value


class InvalidKind(StreetError):
    def __init__(self, value):
        self.value = value


class InvalidMany(StreetError):
    def __init__(self, value):
        self.value = value


class InvalidNumber(StreetError):
    def __init__(self, value):
        self.value = value


class InvalidPlace(StreetError):
    def __init__(self, value):
        self.value = value


class InvalidPlan(StreetError):
    def __init__(self, value):
        self.value = value


class InvalidRow(StreetError):
    def __init__(self, value):
        self.value = value


class InvalidStock(StreetError):
    def __init__(self, value):
        self.value = value


class InvalidStreet(StreetError):
    def __init__(self, value):
        self.value = value


class InvalidTable(StreetError):
    def __init__(self, value):
        self.value = value


class InvalidBasis(StreetError):
    def __init__(self, value):
        self.value = value


class InvalidBounds(StreetError):
    def __init__(self, value):
        self.value = value


class InvalidChanges(StreetError):
    def __init__(self, value):
        self.value = value


class InvalidClaim(StreetError):
    def __init__(self, value):
        self.value = value


class InvalidCommand(StreetError):
    def __init__(self, value):
        self.value = value


class InvalidForm(StreetError):
    def __init__(self, value):
        self.value = value


class InvalidKinds(StreetError):
    def __init__(self, position):
        self.position = position


class InvalidLayout(StreetError):
    def __init__(self, value):
        self.value = value


class InvalidLines(StreetError):
    def __init__(self, position):
        self.position = position


class InvalidLot(StreetError):
    def __init__(self, value):
        self.value = value


class InvalidOrder(StreetError):
    def __init__(self, value):
        self.value = value


class InvalidPaper(StreetError):
    def __init__(self, value):
        self.value = value


class InvalidPrice(StreetError):
    def __init__(self, value):
        self.value = value


class InvalidPrices(StreetError):
    def __init__(self, value):
        self.value = value


class InvalidRest(StreetError):
    def __init__(self, value):
        self.value = value


class InvalidRows(StreetError):
    def __init__(self, value):
        self.value = value


class InvalidSort(StreetError):
    def __init__(self, value):
        self.value = value


class InvalidSwap(StreetError):
    def __init__(self, value):
        self.value = value


class InvalidText(StreetError):
    def __init__(self, line):
        self.line = line


class MissingError(LookupError):
    """Nothing is kept under a name or a label."""


class UnknownLabel(MissingError):
    def __init__(self, value):
        self.value = value


class UnknownName(MissingError):
    def __init__(self, value):
        self.value = value


class StateError(RuntimeError):
    """Values are right one by one, but not together, or not now."""


class UnlikeLengths(StateError):
    pass


class CommandFailed(StateError):
    def __init__(self, position):
        self.position = position


class LabelTaken(StateError):
    def __init__(self, label):
        self.label = label


class NameTaken(StateError):
    def __init__(self, name):
        self.name = name


class NotBest(StateError):
    pass


class NotGrown(StateError):
    pass


class NothingToRedo(StateError):
    pass


class NothingToUndo(StateError):
    pass


class OtherStreet(StateError):
    def __init__(self, name):
        self.name = name


class TooFew(StateError):
    pass


class WrongThing(StateError):
    def __init__(self, name):
        self.name = name


class LimitError(ArithmeticError):
    """Something is beyond what the package looks at."""


class TooMany(LimitError):
    def __init__(self, what, limit):
        self.what = what
        self.limit = limit
