"""The errors of the package, each with the values that it tells as attributes."""


class CreepError(ValueError):
    """The base of the errors for values that do not fit."""


class InvalidNumber(CreepError):
    """A value is no fraction, or one that cannot stand here."""
    def __init__(self, value):
        self.code = "InvalidNumber"
        self.value = value


class InvalidFraction(CreepError):
    """An item of a list is no fraction; -1 if the list itself is wrong."""
    def __init__(self, at):
        self.code = "InvalidFraction"
        self.at = at


class InvalidOrder(CreepError):
    """A value is no order."""
    def __init__(self, value):
        self.code = "InvalidOrder"
        self.value = value


class OrderTooLow(CreepError):
    """An order is lower than the wanted one."""
    def __init__(self, have, wanted):
        self.code = "OrderTooLow"
        self.have = have
        self.wanted = wanted


class UnlikeOrders(CreepError):
    """Two objects have different orders."""
    def __init__(self, one, other):
        self.code = "UnlikeOrders"
        self.one = one
        self.other = other


class InvalidPlace(CreepError):
    """A value is no place of the object."""
    def __init__(self, value):
        self.code = "InvalidPlace"
        self.value = value


class InvalidPower(CreepError):
    """A value cannot be the exponent of a power."""
    def __init__(self, value):
        self.code = "InvalidPower"
        self.value = value


class InvalidTimes(CreepError):
    """A value is no number of times."""
    def __init__(self, value):
        self.code = "InvalidTimes"
        self.value = value


class InvalidText(CreepError):
    """A text cannot be read from the word at on."""
    def __init__(self, at):
        self.code = "InvalidText"
        self.at = at


class InvalidTable(CreepError):
    """An item is no line of a table; -1 if the list itself is wrong."""
    def __init__(self, at):
        self.code = "InvalidTable"
        self.at = at


class CantTurn(CreepError):
    """A step cannot be turned back."""
    def __init__(self):
        self.code = "CantTurn"


class NotSlow(CreepError):
    """A step has another lead than 1."""
    def __init__(self, first):
        self.code = "NotSlow"
        self.first = first


class IsStill(CreepError):
    """A step is still where a creep is needed."""
    def __init__(self, have):
        self.code = "IsStill"
        self.have = have


class NotOne(CreepError):
    """A row begins with another number than 1."""
    def __init__(self, first):
        self.code = "NotOne"
        self.first = first


class NotUnit(CreepError):
    """A table has a number that a unit table has otherwise."""
    def __init__(self, line, place):
        self.code = "NotUnit"
        self.line = line
        self.place = place


class NotATable(CreepError):
    """A table is the table of no step."""
    def __init__(self, line, place):
        self.code = "NotATable"
        self.line = line
        self.place = place


class NotAFlow(CreepError):
    """A step is no power of another one."""
    def __init__(self, place):
        self.code = "NotAFlow"
        self.place = place


class InvalidFlat(CreepError):
    """A value is no flat that fits."""
    def __init__(self, value):
        self.code = "InvalidFlat"
        self.value = value


class NotAClock(CreepError):
    """A tally is the clock of no creep."""
    def __init__(self):
        self.code = "NotAClock"


class UnlikeFlats(CreepError):
    """Two objects have different flats."""
    def __init__(self, one, other):
        self.code = "UnlikeFlats"
        self.one = one
        self.other = other


class NotAlike(CreepError):
    """Two steps are not alike; the paper says why."""
    def __init__(self, paper):
        self.code = "NotAlike"
        self.paper = paper


class InvalidLead(CreepError):
    """A value cannot be the lead of a member."""
    def __init__(self, value):
        self.code = "InvalidLead"
        self.value = value


class InvalidTime(CreepError):
    """A value cannot be the time of a member."""
    def __init__(self, value):
        self.code = "InvalidTime"
        self.value = value


class InvalidTop(CreepError):
    """An item of a choice is no fraction; -1 if the list itself is wrong."""
    def __init__(self, at):
        self.code = "InvalidTop"
        self.at = at


class NotInFamily(CreepError):
    """A step is no renamer of the family."""
    def __init__(self, place):
        self.code = "NotInFamily"
        self.place = place


class NoFlips(CreepError):
    """A step has no roots among the flips."""
    def __init__(self):
        self.code = "NoFlips"


class NotFolded(CreepError):
    """A creep is alike to no fold."""
    def __init__(self, value):
        self.code = "NotFolded"
        self.value = value


class InvalidFar(CreepError):
    """An item is no polynomial of a far row; -1 if the list itself is wrong."""
    def __init__(self, at):
        self.code = "InvalidFar"
        self.at = at


class NotFar(CreepError):
    """A far row is that of no creep."""
    def __init__(self, place):
        self.code = "NotFar"
        self.place = place


class NotLed(CreepError):
    """A renamer has another lead than 1."""
    def __init__(self, first):
        self.code = "NotLed"
        self.first = first


class NotInCrew(CreepError):
    """A step is not in the crew; the paper says why."""
    def __init__(self, paper):
        self.code = "NotInCrew"
        self.paper = paper


class InCrew(CreepError):
    """A step is in the crew."""
    def __init__(self):
        self.code = "InCrew"


class InvalidName(CreepError):
    """A value is no name."""
    def __init__(self, value):
        self.code = "InvalidName"
        self.value = value


class InvalidNames(CreepError):
    """An item is no new name; -1 if the list itself is wrong."""
    def __init__(self, at):
        self.code = "InvalidNames"
        self.at = at


class InvalidWord(CreepError):
    """An item is no word; -1 if the list itself is wrong."""
    def __init__(self, at):
        self.code = "InvalidWord"
        self.at = at


class SameName(CreepError):
    """A name stands where another one is needed."""
    def __init__(self, name):
        self.code = "SameName"
        self.name = name


class NotOpen(CreepError):
    """The outlook of two steps is not open."""
    def __init__(self):
        self.code = "NotOpen"


class InvalidStep(CreepError):
    """A value is no step."""
    def __init__(self):
        self.code = "InvalidStep"


class InvalidPaper(CreepError):
    """An item is no paper; -1 if the list itself is wrong."""
    def __init__(self, at):
        self.code = "InvalidPaper"
        self.at = at


class InvalidDeed(CreepError):
    """A value is no deed."""
    def __init__(self, at):
        self.code = "InvalidDeed"
        self.at = at


class InvalidLine(CreepError):
    """A line of a text cannot stand."""
    def __init__(self, line):
        self.code = "InvalidLine"
        self.line = line


class TooMany(CreepError):
    """There would be more than the most that may be."""
    def __init__(self, most):
        self.code = "TooMany"
        self.most = most


class Solved(CreepError):
    """All places of an answer are known."""
    def __init__(self):
        self.code = "Solved"


class NoAnswer(ArithmeticError):
    """The base of the errors for tasks without an answer."""


class DividedByZero(NoAnswer):
    """Something was divided by 0."""
    def __init__(self):
        self.code = "DividedByZero"


class Tied(NoAnswer):
    """The words are tied by a list of fractions."""
    def __init__(self, ties):
        self.code = "Tied"
        self.ties = ties


class NotSquare(NoAnswer):
    """There are not as many equations as unknown names."""
    def __init__(self, equations, unknowns):
        self.code = "NotSquare"
        self.equations = equations
        self.unknowns = unknowns


class Missing(LookupError):
    """The base of the errors for what is not there."""


class UnknownName(Missing):
    """There is nothing with this name."""
    def __init__(self, name):
        self.code = "UnknownName"
        self.name = name


class UnknownStep(Missing):
    """There is no step with this index."""
    def __init__(self, at):
        self.code = "UnknownStep"
        self.at = at


class NothingLeft(IndexError):
    """There is nothing left to undo or to redo."""
    def __init__(self):
        self.code = "NothingLeft"
