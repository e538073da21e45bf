"""The errors of the package, each of which keeps the very objects that it is made with."""


class SlotError(ValueError):
    """What all errors of the package are."""


class BadBegun(SlotError):
    def __init__(self, thing):
        super().__init__("no plan that is begun")
        self.thing = thing


class BadBox(SlotError):
    def __init__(self, thing):
        super().__init__("no box")
        self.thing = thing


class BadCells(SlotError):
    def __init__(self, thing):
        super().__init__("no number of cells")
        self.thing = thing


class BadChain(SlotError):
    def __init__(self, thing):
        super().__init__("no chain")
        self.thing = thing


class BadCount(SlotError):
    def __init__(self, thing):
        super().__init__("no number of hours")
        self.thing = thing


class BadDeed(SlotError):
    def __init__(self, thing):
        super().__init__("no deed")
        self.thing = thing


class BadHeld(SlotError):
    def __init__(self, index):
        super().__init__("no number of a term, or one that stood before")
        self.index = index


class BadHours(SlotError):
    def __init__(self, index):
        super().__init__("no hour")
        self.index = index


class BadLine(SlotError):
    def __init__(self, thing):
        super().__init__("no number of lines")
        self.thing = thing


class BadLines(SlotError):
    def __init__(self, index):
        super().__init__("no line there")
        self.index = index


class BadListing(SlotError):
    def __init__(self, index):
        super().__init__("nothing that can stand there in a listing")
        self.index = index


class BadMany(SlotError):
    def __init__(self, thing):
        super().__init__("no number that can be how many there are")
        self.thing = thing


class BadNumber(SlotError):
    def __init__(self, thing):
        super().__init__("no number that is asked for")
        self.thing = thing


class BadOrder(SlotError):
    def __init__(self, thing):
        super().__init__("no order")
        self.thing = thing


class BadPairs(SlotError):
    def __init__(self, index):
        super().__init__("no pair of things, or one that puts a thing ahead of itself")
        self.index = index


class BadPlace(SlotError):
    def __init__(self, thing):
        super().__init__("no line at this place")
        self.thing = thing


class BadPlan(SlotError):
    def __init__(self, thing):
        super().__init__("no plan")
        self.thing = thing


class BadProgram(SlotError):
    def __init__(self, thing):
        super().__init__("no program")
        self.thing = thing


class BadQuestion(SlotError):
    def __init__(self, thing):
        super().__init__("no question now")
        self.thing = thing


class BadReads(SlotError):
    def __init__(self, index):
        super().__init__("nothing that can be read there")
        self.index = index


class BadRow(SlotError):
    def __init__(self, index):
        super().__init__("no instruction")
        self.index = index


class BadRows(SlotError):
    def __init__(self, index):
        super().__init__("no row there")
        self.index = index


class BadSeen(SlotError):
    def __init__(self, index):
        super().__init__("nothing that can be seen there")
        self.index = index


class BadSession(SlotError):
    def __init__(self, thing):
        super().__init__("no session")
        self.thing = thing


class BadSome(SlotError):
    def __init__(self, index):
        super().__init__("no read name, or one that stood before")
        self.index = index


class BadSource(SlotError):
    def __init__(self, thing):
        super().__init__("no source")
        self.thing = thing


class BadSpots(SlotError):
    def __init__(self, index):
        super().__init__("no spot, or one that stood before")
        self.index = index


class BadTeller(SlotError):
    def __init__(self, thing):
        super().__init__("no teller")
        self.thing = thing


class BadTells(SlotError):
    def __init__(self, index):
        super().__init__("nothing that can be told there")
        self.index = index


class BadText(SlotError):
    def __init__(self, line, sign):
        super().__init__("no such text")
        self.line = line
        self.sign = sign


class InUse(SlotError):
    def __init__(self, question):
        super().__init__("a watched question would be none")
        self.question = question


class IsWatched(SlotError):
    def __init__(self, question):
        super().__init__("the question is watched, or held, by now")
        self.question = question


class NoCell(SlotError):
    def __init__(self, thing):
        super().__init__("no cell that holds something")
        self.thing = thing


class NoCount(SlotError):
    def __init__(self, thing):
        super().__init__("no number of deeds that are done")
        self.thing = thing


class NoHour(SlotError):
    def __init__(self, hour):
        super().__init__("no such hour")
        self.hour = hour


class NoLine(SlotError):
    def __init__(self, thing):
        super().__init__("no line that gives")
        self.thing = thing


class NoSpot(SlotError):
    def __init__(self, hour, slot):
        super().__init__("nothing is made at this spot")
        self.hour = hour
        self.slot = slot


class NoText(SlotError):
    def __init__(self, index):
        super().__init__("nothing that can be told back")
        self.index = index


class NoThing(SlotError):
    def __init__(self, thing):
        super().__init__("no thing of the order")
        self.thing = thing


class NoTold(SlotError):
    def __init__(self, thing):
        super().__init__("no told name")
        self.thing = thing


class NotSound(SlotError):
    def __init__(self, fault):
        super().__init__("the program has a fault")
        self.fault = fault


class NotWatched(SlotError):
    def __init__(self, question):
        super().__init__("the question is not watched")
        self.question = question


class WouldChange(SlotError):
    def __init__(self, question, why):
        super().__init__("a held question would be answered otherwise")
        self.question = question
        self.why = why
