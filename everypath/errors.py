"""The errors of programs, texts, strips, zones and papers: each keeps the very thing that is wrong."""


class RunError(ValueError):
    """What every error of this package is."""


class BadProgram(RunError):
    def __init__(self, thing):
        self.thing = thing


class BadFunctions(RunError):
    def __init__(self, index):
        self.index = index


class BadName(RunError):
    def __init__(self, name):
        self.name = name


class BadText(RunError):
    def __init__(self, place):
        self.place = place


class BadAssertion(RunError):
    def __init__(self, assertion):
        self.assertion = assertion


class BadInputs(RunError):
    def __init__(self, inputs):
        self.inputs = inputs


class BadSteps(RunError):
    def __init__(self, steps):
        self.steps = steps


class BadStrip(RunError):
    def __init__(self, strip):
        self.strip = strip


class BadInteger(RunError):
    def __init__(self, integer):
        self.integer = integer


class BadExpression(RunError):
    def __init__(self, expression):
        self.expression = expression


class BadStrips(RunError):
    def __init__(self, strips):
        self.strips = strips


class BadZone(RunError):
    def __init__(self, zone):
        self.zone = zone


class BadThing(RunError):
    def __init__(self, thing):
        self.thing = thing


class BadThings(RunError):
    def __init__(self, things):
        self.things = things


class BadNames(RunError):
    def __init__(self, names):
        self.names = names


class BadCondition(RunError):
    def __init__(self, condition):
        self.condition = condition


class BadExpressions(RunError):
    def __init__(self, expressions):
        self.expressions = expressions


class BadLow(RunError):
    def __init__(self, low):
        self.low = low


class BadHigh(RunError):
    def __init__(self, high):
        self.high = high


class BadAction(RunError):
    def __init__(self, action):
        self.action = action


class BadCuts(RunError):
    def __init__(self, cuts):
        self.cuts = cuts


class BadSides(RunError):
    def __init__(self, sides):
        self.sides = sides


class BadPaper(RunError):
    def __init__(self, paper):
        self.paper = paper


class BadEnd(RunError):
    def __init__(self, end):
        self.end = end


class BadState(RunError):
    def __init__(self, state):
        self.state = state


class BadOther(RunError):
    def __init__(self, other):
        self.other = other


class BadPaperText(RunError):
    def __init__(self, line):
        self.line = line


class BadLadder(RunError):
    def __init__(self, ladder):
        self.ladder = ladder


class BadPlace(RunError):
    def __init__(self, place):
        self.place = place
