"""[2.2] and the interface: the errors."""

import unittest

from everypath import errors, refusals
from everypath.errors import RunError
from tests.helpers import any_objects

ERRORS = {"BadProgram": "thing", "BadFunctions": "index", "BadName": "name", "BadText": "place",
          "BadAssertion": "assertion", "BadInputs": "inputs", "BadSteps": "steps", "BadStrip": "strip",
          "BadInteger": "integer", "BadExpression": "expression", "BadStrips": "strips", "BadZone": "zone",
          "BadThing": "thing", "BadThings": "things", "BadNames": "names", "BadCondition": "condition",
          "BadExpressions": "expressions", "BadLow": "low", "BadHigh": "high", "BadAction": "action",
          "BadCuts": "cuts", "BadSides": "sides", "BadPaper": "paper", "BadEnd": "end", "BadState": "state",
          "BadOther": "other", "BadPaperText": "line", "BadLadder": "ladder", "BadPlace": "place"}
REFUSALS = {"NotTaken": "why", "BadNumbers": "numbers", "BadRounds": "rounds", "BadWidth": "width",
            "BadMany": "many", "BadStates": "states", "BadSystem": "system", "BadFactors": "factors",
            "BadFeeds": "feeds", "BadEdge": "edge", "BadVariable": "variable", "BadEdges": "edges",
            "BadSecrets": "secrets", "BadHead": "head", "BadRanking": "ranking", "NotRanked": "why",
            "BadRanks": "ranks", "BadDepths": "depths", "BadRankings": "rankings", "NotDeep": "why",
            "BadRanges": "ranges", "BadFacts": "facts", "BadConditions": "conditions", "BadRow": "row",
            "BadNumber": "number", "BadSummaries": "summaries", "BadSome": "some", "BadWhy": "why",
            "BadLeaps": "leaps"}


class ErrorsTest(unittest.TestCase):
    def test_each_error_is_right_beneath_run_error(self):
        self.assertEqual(RunError.__bases__, (ValueError,))
        for module, names in ((errors, ERRORS), (refusals, REFUSALS)):
            found = [name for name, thing in vars(module).items()
                     if isinstance(thing, type) and thing is not RunError]
            self.assertEqual(sorted(found), sorted(names))
            for name in names:
                self.assertEqual(getattr(module, name).__bases__, (RunError,))

    def test_each_error_keeps_the_very_thing(self):
        for module, names in ((errors, ERRORS), (refusals, REFUSALS)):
            for name, kept in names.items():
                for thing in any_objects():
                    self.assertIs(getattr(getattr(module, name)(thing), kept), thing)
                    self.assertIs(getattr(getattr(module, name)(**{kept: thing}), kept), thing)


if __name__ == "__main__":
    unittest.main()
