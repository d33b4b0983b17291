"""The errors of judges, systems, slices, loops, paths and what comes of them."""

from everypath.errors import RunError


class NotTaken(RunError):
    def __init__(self, why):
        self.why = why


class BadNumbers(RunError):
    def __init__(self, numbers):
        self.numbers = numbers


class BadRounds(RunError):
    def __init__(self, rounds):
        self.rounds = rounds


class BadWidth(RunError):
    def __init__(self, width):
        self.width = width


class BadMany(RunError):
    def __init__(self, many):
        self.many = many


class BadStates(RunError):
    def __init__(self, states):
        self.states = states


class BadSystem(RunError):
    def __init__(self, system):
        self.system = system


class BadFactors(RunError):
    def __init__(self, factors):
        self.factors = factors


class BadFeeds(RunError):
    def __init__(self, feeds):
        self.feeds = feeds


class BadEdge(RunError):
    def __init__(self, edge):
        self.edge = edge


class BadVariable(RunError):
    def __init__(self, variable):
        self.variable = variable


class BadEdges(RunError):
    def __init__(self, edges):
        self.edges = edges


class BadSecrets(RunError):
    def __init__(self, secrets):
        self.secrets = secrets


class BadHead(RunError):
    def __init__(self, head):
        self.head = head


class BadRanking(RunError):
    def __init__(self, ranking):
        self.ranking = ranking


class NotRanked(RunError):
    def __init__(self, why):
        self.why = why


class BadRanks(RunError):
    def __init__(self, ranks):
        self.ranks = ranks


class BadDepths(RunError):
    def __init__(self, depths):
        self.depths = depths


class BadRankings(RunError):
    def __init__(self, rankings):
        self.rankings = rankings


class NotDeep(RunError):
    def __init__(self, why):
        self.why = why


class BadRanges(RunError):
    def __init__(self, ranges):
        self.ranges = ranges


class BadFacts(RunError):
    def __init__(self, facts):
        self.facts = facts


class BadConditions(RunError):
    def __init__(self, conditions):
        self.conditions = conditions


class BadRow(RunError):
    def __init__(self, row):
        self.row = row


class BadNumber(RunError):
    def __init__(self, number):
        self.number = number


class BadSummaries(RunError):
    def __init__(self, summaries):
        self.summaries = summaries


class BadSome(RunError):
    def __init__(self, some):
        self.some = some


class BadWhy(RunError):
    def __init__(self, why):
        self.why = why


class BadLeaps(RunError):
    def __init__(self, leaps):
        self.leaps = leaps
