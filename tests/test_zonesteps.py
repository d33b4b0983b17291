"""[8.1] to [8.8]: steps of zones."""

import functools
import itertools
import random
import unittest

from everypath.errors import (BadAction, BadCondition, BadExpression, BadExpressions, BadHigh, BadLow, BadThing,
                              BadZone)
from everypath.forms import form_of, strip_of
from everypath.zones import closed, is_below, is_in, joined, met, strip_in
from everypath.zonesteps import drawn, freed, most, stepped, when
from tests.helpers import (X, Y, add, any_objects, both, div, either, eq, le, lt, mod, name, ne, no, num, refused, sub,
                           times, told)
from tests.test_forms import WRONG_EXPRESSIONS, random_expression, value_of
from tests.test_zones import NONE_LEFT, OVER_NONE, WRONG
from tests.zonesamples import even_zone, random_zone, values_in

Z = (["x", "y"], {("x", "y"): 2, ("y", "0"): 5, ("0", "y"): 1}, {"x": (1, 0), "y": (1, 0)})
WRONG_CONDITIONS = [X, ("lt", X), ("and", lt(X, X)), ("gt", X, X), ("not", X), True, None, (), ("eq", X, ("name", 1)),
                    ("or", lt(X, X), X), "lt"]


def holds(condition, values):
    word = condition[0]
    if word == "not":
        return not holds(condition[1], values)
    if word in ("and", "or"):
        sides = (holds(condition[1], values), holds(condition[2], values))
        return all(sides) if word == "and" else any(sides)
    one, two = value_of(condition[1], values), value_of(condition[2], values)
    return {"lt": one < two, "le": one <= two, "eq": one == two, "ne": one != two}[word]


def random_condition(source, facts, names="xy", divs=True):
    if facts > 1:
        left = source.randrange(1, facts)
        inner = (random_condition(source, left, names, divs), random_condition(source, facts - left, names, divs))
        return (source.choice(("and", "or")), *inner)
    if source.random() < 0.3:
        return no(random_condition(source, facts, names, divs))
    return (source.choice(("lt", "le", "eq", "ne")), random_expression(source, source.randrange(1, 4), names, divs),
            random_expression(source, source.randrange(1, 3), names, divs))


def unit_cost(bounds, terms):
    """The cost of terms by trying each way to pair single units: bounds that are closed need no ways between."""
    sources = [thing for thing, factor in terms for _ in range(factor)]
    sinks = [thing for thing, factor in terms for _ in range(-factor)]
    sources += ["0"] * (len(sinks) - len(sources))
    sinks += ["0"] * (len(sources) - len(sinks))

    @functools.lru_cache(None)
    def cost_of_rest(left):
        if not left:
            return 0
        costs = [bounds[sources[len(left) - 1], sink] + rest for at, sink in enumerate(left)
                 if (sources[len(left) - 1], sink) in bounds and (at == 0 or left[at - 1] != sink)
                 for rest in [cost_of_rest(left[:at] + left[at + 1:])] if rest is not None]
        return min(costs, default=None)

    return cost_of_rest(tuple(sorted(sinks)))


def most_of_form(zone, constant, terms):
    """The MOST of a form by the words of [8.2]."""
    shut = closed(zone)
    strips = {thing: strip_in(zone, thing) for thing in shut[0]}
    names = []
    for factor, piece in terms:
        if piece[0] == "name":
            names.append((piece[1], factor))
            continue
        strip = strip_of(piece, strips)
        end = strip[1] if factor > 0 else strip[0]
        if end is None:
            return None
        constant += factor * end
    cost = unit_cost(shut[1], names)
    return None if cost is None else constant + cost


def difference(one, other):
    return form_of(sub(one, other))


def at_most(zone, one, other):
    """when of ("le", one, other) by the words of [8.6]."""
    shut = closed(zone)
    if shut is None:
        return None
    most_here = most_of_form(zone, *difference(other, one))
    if most_here is not None and most_here < 0:
        return None
    _, terms = difference(one, other)
    nodes = {"0": num(0), **{thing: name(thing) for thing in shut[0]}}
    bounds = {}
    for u, v in itertools.permutations(nodes, 2):
        found = [shut[1][u, v]] if (u, v) in shut[1] else []
        for k in {1} | {abs(factor) for factor, piece in terms if piece[0] == "name"}:
            form = difference(sub(times(k, nodes[u]), times(k, nodes[v])), sub(one, other))
            most_there = most_of_form(zone, *form)
            if most_there is not None:
                found.append(most_there // k)
        if found:
            bounds[u, v] = min(found)
    return shut[0], bounds, shut[2]


class MostTest(unittest.TestCase):
    def test_example(self):
        for expression, expected in ((add(X, Y), 12), (sub(X, times(3, Y)), 4), (div(add(X, Y), 5), 2),
                                     (sub(times(2, Y), X), None)):
            self.assertEqual(told(self, most, zone=Z, expression=expression), expected)
        self.assertEqual(drawn(Z, {"d": sub(X, Y), "s": add(X, Y)})[1],
                         {("d", "0"): 2, ("d", "s"): 2, ("s", "0"): 12, ("s", "d"): 10})
        self.assertEqual(when(Z, lt(X, num(0)))[1], {("x", "y"): 0, ("x", "0"): -1, ("y", "0"): 5, ("0", "y"): 1})
        self.assertEqual(told(self, when, zone=Z, condition=eq(mod(Y, 4), num(3))),
                         (["x", "y"], closed(Z)[1], {"x": (1, 0), "y": (4, 3)}))

    def test_most_is_what_its_words_say(self):
        source = random.Random(1)
        seen = set()
        for at in range(400):
            zone = random_zone(source, ("x", "y", "z"), source.choice((0.4, 0.7, 1)))
            expression = random_expression(source, source.randrange(1, 7), "xyz", at % 2 == 0)
            constant, terms = form_of(expression)
            if closed(zone) is None or sum(abs(factor) for factor, _ in terms) > 6:
                continue
            expected = most_of_form(zone, constant, terms)
            self.assertEqual(most(zone, expression), expected)
            seen.add(expected)
        self.assertTrue(len(seen) > 15 and None in seen, seen)

    def test_most_is_reached_in_even_zones(self):
        source = random.Random(2)
        for at in range(150):
            zone = even_zone(source, ("x", "y", "z")[:1 + at % 3], boxed=True)
            inside = values_in(zone)
            expression = random_expression(source, source.randrange(1, 7), "xyz"[:1 + at % 3], at % 3 == 0)
            if not inside:
                refused(self, BadZone, zone, most, zone, expression)
                continue
            reached = max(value_of(expression, values) for values in inside)
            self.assertTrue(most(zone, expression) >= reached)
            if at % 3 != 0:
                self.assertEqual(most(zone, expression), reached)

    def test_few_units_from_two_to_two(self):
        source = random.Random(12)
        told_ones = []
        for _ in range(1500):
            zone = random_zone(source, ("w", "x", "y", "z"), source.choice((0.3, 0.5, 0.9)), (1,))
            shut = closed(zone)
            terms = [(thing, source.choice((-3, -2, -1, 1, 2, 3))) for thing in source.sample("wxyz", source.randrange(2, 5))]
            if shut is not None:
                expression = num(0)
                for thing, factor in terms:
                    expression = add(expression, times(factor, name(thing)))
                told_ones.append(most(zone, expression))
                self.assertEqual(told_ones[-1], unit_cost(shut[1], terms))
        self.assertGreater(len([one for one in told_ones if one is not None]), 100)
        self.assertIn(None, told_ones)

    def test_many_units(self):
        bounds = {("a", "0"): 7, ("b", "0"): 5, ("0", "c"): -1, ("0", "d"): 4, ("a", "c"): 3, ("b", "c"): 1,
                  ("a", "d"): 12, ("b", "d"): 6}
        zone = (["a", "b", "c", "d"], bounds, {thing: (1, 0) for thing in "abcd"})
        shut = closed(zone)[1]
        terms = [("a", 2), ("b", 3), ("c", -3), ("d", -2)]
        expression = num(0)
        for thing, factor in terms:
            expression = add(expression, times(factor, name(thing)))
        self.assertEqual(most(zone, expression), unit_cost(shut, terms))
        self.assertEqual(most(zone, times(10 ** 30, expression)), 10 ** 30 * unit_cost(shut, terms))

    def test_refusals(self):
        for thing in WRONG + [thing for thing in any_objects() if thing is not None] + [None, NONE_LEFT]:
            refused(self, BadZone, thing, most, thing, 17)
        for thing in any_objects() + WRONG_EXPRESSIONS + [name("z"), name("0"), add(X, name("a"))]:
            refused(self, BadExpression, thing, most, Z, thing)


class DrawnTest(unittest.TestCase):
    def test_what_its_words_say(self):
        source = random.Random(3)
        for at in range(200):
            zone = random_zone(source, ("x", "y"), source.choice((0.5, 0.9)))
            expressions = {key: random_expression(source, source.randrange(1, 5), "xy") for key in ("a", "x", "c")}
            image = drawn(zone, expressions)
            if closed(zone) is None:
                self.assertIsNone(image)
                continue
            strips = {thing: strip_in(zone, thing) for thing in "xy"}
            nodes = {**expressions, "0": num(0)}
            bounds = {}
            for u, v in itertools.permutations(nodes, 2):
                form = difference(nodes[u], nodes[v])
                if sum(abs(factor) for factor, _ in form[1]) <= 7:
                    self.assertEqual(image[1].get((u, v)), most_of_form(zone, *form))
                    bounds[u, v] = True
            self.assertTrue(len(bounds) > 2)
            self.assertEqual(image[0], ["a", "c", "x"])
            self.assertEqual(image[2], {key: strip_of(expressions[key], strips)[2:] for key in expressions})

    def test_has_all_values_and_is_exact_in_even_zones(self):
        source = random.Random(4)
        for at in range(150):
            zone = even_zone(source, boxed=True)
            expressions = {key: random_expression(source, source.randrange(1, 5), "xy", at % 3 == 0) for key in "ab"}
            image, inside = drawn(zone, expressions), values_in(zone)
            made = [{key: value_of(expressions[key], values) for key in "ab"} for values in inside]
            for values in made:
                self.assertTrue(is_in(image, values))
            if at % 3 != 0:
                self.assertEqual(closed(image) is None, made == [])
                for u, v in closed(image)[1] if made else []:
                    reached = max({**values, "0": 0}[u] - {**values, "0": 0}[v] for values in made)
                    self.assertEqual(closed(image)[1][u, v], reached)

    def test_edges(self):
        self.assertEqual(told(self, drawn, zone=Z, expressions={}), OVER_NONE)
        self.assertEqual(told(self, drawn, zone=OVER_NONE, expressions={"a": num(3), "": num(-1)}),
                         (["", "a"], {("a", "0"): 3, ("0", "a"): -3, ("", "0"): -1, ("0", ""): 1, ("a", ""): 4,
                                      ("", "a"): -4}, {"a": (0, 3), "": (0, -1)}))
        self.assertIsNone(told(self, drawn, zone=None, expressions={"a": name("any text")}))
        self.assertIsNone(told(self, drawn, zone=NONE_LEFT, expressions={"a": X}))
        self.assertEqual(told(self, drawn, zone=Z, expressions={"p": div(X, 2), "q": div(X, 2)})[1][("p", "q")], 0)
        self.assertEqual(drawn(Z, {"p": mod(Y, 3), "q": add(Y, num(1))})[2], {"p": (1, 0), "q": (1, 0)})

    def test_refusals(self):
        for thing in WRONG + [thing for thing in any_objects() if thing is not None]:
            refused(self, BadZone, thing, drawn, thing, 17)
        for zone in (None, Z, NONE_LEFT):
            for thing in [thing for thing in any_objects() if thing != {}] + [
                    {"0": X}, {1: X}, {"a": X, None: X}, {"a": X, ("b",): X}, [("a", X)],
                    *[{"a": X, "b": wrong} for wrong in WRONG_EXPRESSIONS]]:
                refused(self, BadExpressions, thing, drawn, zone, thing)
        for thing in ({"a": name("z")}, {"a": name("0")}):
            refused(self, BadExpressions, thing, drawn, Z, thing)
        thing = {"a": Y}
        refused(self, BadExpressions, thing, drawn, NONE_LEFT, thing)


class FreedTest(unittest.TestCase):
    def test_freed(self):
        self.assertEqual(told(self, freed, zone=Z, thing="y", low=-2, high=8),
                         (["x", "y"], {("x", "0"): 7, ("y", "0"): 8, ("0", "y"): 2}, {"x": (1, 0), "y": (1, 0)}))
        self.assertEqual(told(self, freed, zone=OVER_NONE, thing="", low=3, high=3),
                         ([""], {("", "0"): 3, ("0", ""): -3}, {"": (1, 0)}))
        shut = closed(Z)
        self.assertEqual(told(self, freed, zone=Z, thing="a", low=0, high=0),
                         (["a", "x", "y"], {**shut[1], ("a", "0"): 0, ("0", "a"): 0}, {**shut[2], "a": (1, 0)}))
        self.assertIsNone(told(self, freed, zone=None, thing="x", low=0, high=1))
        self.assertIsNone(told(self, freed, zone=NONE_LEFT, thing="x", low=0, high=1))

    def test_refusals(self):
        for thing in WRONG + [thing for thing in any_objects() if thing is not None]:
            refused(self, BadZone, thing, freed, thing, 1, 2, None)
        for zone in (None, Z):
            for thing in [thing for thing in any_objects() if not isinstance(thing, str)] + ["0"]:
                refused(self, BadThing, thing, freed, zone, thing, None, None)
            for thing in [thing for thing in any_objects() if not isinstance(thing, int)] + [True, False]:
                refused(self, BadLow, thing, freed, zone, "x", thing, None)
                refused(self, BadHigh, thing, freed, zone, "x", 3, thing)
            refused(self, BadHigh, 2, freed, zone, "x", 3, 2)


class WhenTest(unittest.TestCase):
    def test_at_most_is_what_its_words_say(self):
        source = random.Random(5)
        empty = 0
        for at in range(120):
            zone = random_zone(source, ("x", "y"), source.choice((0.4, 0.8)))
            one, other = (random_expression(source, source.randrange(1, 4), "xy", at % 2 == 0) for _ in range(2))
            if sum(abs(factor) for factor, _ in difference(one, other)[1]) > 4:
                continue
            expected = at_most(zone, one, other)
            self.assertEqual(when(zone, le(one, other)), expected)
            self.assertEqual(when(zone, no(lt(other, one))), expected)
            self.assertEqual(when(zone, lt(one, add(other, num(1)))), expected)
            empty += expected is None
        self.assertTrue(empty > 10)

    def test_conditions_are_made_of_one_another(self):
        source = random.Random(6)
        for _ in range(150):
            zone = random_zone(source, ("x", "y"), 0.5)
            c, d = (random_condition(source, source.randrange(1, 3)) for _ in range(2))
            e, f = (random_expression(source, source.randrange(1, 4), "xy") for _ in range(2))
            self.assertEqual(when(zone, both(c, d)), when(when(zone, c), d))
            self.assertEqual(when(zone, either(c, d)), joined(when(zone, c), when(zone, d)))
            self.assertEqual(when(zone, ne(e, f)), joined(when(zone, lt(e, f)), when(zone, lt(f, e))))
            self.assertEqual(when(zone, lt(e, f)), when(zone, le(add(e, num(1)), f)))
            self.assertEqual(when(zone, no(both(c, d))), when(zone, either(no(c), no(d))))
            self.assertEqual(when(zone, no(either(c, d))), when(zone, both(no(c), no(d))))
            self.assertEqual(when(zone, no(no(c))), when(zone, c))
            self.assertEqual(when(zone, no(lt(e, f))), when(zone, le(f, e)))
            self.assertEqual(when(zone, no(le(e, f))), when(zone, lt(f, e)))
            self.assertEqual(when(zone, no(eq(e, f))), when(zone, ne(e, f)))
            self.assertEqual(when(zone, no(ne(e, f))), when(zone, eq(e, f)))
            if e[0] != "mod" and f[0] != "mod":
                self.assertEqual(when(zone, eq(e, f)), when(when(zone, le(e, f)), le(f, e)))

    def test_remainders(self):
        wide = (["x"], {}, {"x": (6, 1)})
        for one, other in ((mod(X, 4), num(3)), (num(3), mod(X, 4))):
            self.assertEqual(told(self, when, zone=wide, condition=eq(one, other))[2], {"x": (12, 7)})
        self.assertIsNone(when(wide, eq(mod(X, 2), num(0))))
        self.assertIsNone(when(wide, eq(mod(X, 4), num(4))))
        self.assertIsNone(when(wide, eq(mod(X, 4), num(-1))))
        self.assertEqual(when(wide, eq(mod(X, 1), num(0))), wide)
        self.assertEqual(when(wide, eq(add(mod(X, 4), num(0)), num(3)))[2], {"x": (6, 1)})
        self.assertEqual(when(wide, eq(mod(add(X, num(0)), 4), num(3)))[2], {"x": (6, 1)})
        self.assertEqual(when(wide, eq(mod(X, 4), sub(num(4), num(1))))[2], {"x": (6, 1)})
        self.assertEqual(when((["x"], {}, {"x": (0, 7)}), eq(mod(X, 4), num(3)))[2], {"x": (0, 7)})

    def test_no_values_are_lost(self):
        source = random.Random(7)
        for at in range(200):
            zone = random_zone(source, ("x", "y", "z")[:2 + at % 2], 0.4, boxed=True)
            condition = random_condition(source, source.randrange(1, 4))
            left = when(zone, condition)
            for values in values_in(zone):
                if holds(condition, values):
                    self.assertTrue(is_in(left, values))

    def test_exact_in_even_zones(self):
        source = random.Random(8)
        for _ in range(300):
            zone = even_zone(source, boxed=True)
            factor, moved = source.choice((-3, -2, -1, 1, 2, 3)), num(source.randrange(-9, 10))
            one = source.choice((times(factor, X), times(factor, Y), sub(times(factor, X), times(factor, Y))))
            condition = (source.choice(("lt", "le", "eq")), *source.choice(((one, moved), (moved, one))))
            inside = [values for values in values_in(zone) if holds(condition, values)]
            shut = closed(when(zone, condition))
            self.assertEqual(shut is None, inside == [])
            for u, v in shut[1] if inside else []:
                reached = max({**values, "0": 0}[u] - {**values, "0": 0}[v] for values in inside)
                self.assertEqual(shut[1][u, v], reached)

    def test_edges(self):
        self.assertIsNone(told(self, when, zone=None, condition=both(lt(name("!"), X), ne(X, X))))
        self.assertIsNone(told(self, when, zone=NONE_LEFT, condition=no(lt(X, X))))
        self.assertEqual(told(self, when, zone=OVER_NONE, condition=le(num(0), num(0))), OVER_NONE)
        self.assertIsNone(told(self, when, zone=OVER_NONE, condition=lt(num(0), num(0))))
        self.assertEqual(when(Z, le(sub(X, X), num(0))), closed(Z))
        self.assertEqual(when(Z, either(lt(X, X), lt(Y, num(9)))), closed(Z))

    def test_refusals(self):
        for thing in WRONG + [thing for thing in any_objects() if thing is not None]:
            refused(self, BadZone, thing, when, thing, 17)
        for zone in (None, Z, NONE_LEFT):
            for thing in any_objects() + WRONG_CONDITIONS + [lt(X, wrong) for wrong in WRONG_EXPRESSIONS]:
                refused(self, BadCondition, thing, when, zone, thing)
        condition = both(lt(X, X), lt(X, name("z")))
        refused(self, BadCondition, condition, when, Z, condition)
        condition = lt(Y, Y)
        refused(self, BadCondition, condition, when, NONE_LEFT, condition)

    def test_nine_things(self):
        things = list("abcdefghi")
        source = random.Random(9)
        bounds = {(u, v): source.randrange(5, 10 ** 12) for u, v in itertools.permutations(["0", *things], 2)}
        zone = (things, bounds, {thing: (1, 0) for thing in things})
        expression = num(0)
        for thing in things:
            expression = add(expression, times(source.choice((-1, 1)) * source.randrange(1, 10 ** 6), name(thing)))
        self.assertTrue(is_below(when(zone, ne(expression, num(3))), closed(zone)))


class SteppedTest(unittest.TestCase):
    def test_stepped(self):
        e, c = add(X, times(2, Y)), lt(X, num(3))
        self.assertEqual(told(self, stepped, zone=Z, action=("set", "x", e)), drawn(Z, {"x": e, "y": Y}))
        self.assertEqual(told(self, stepped, zone=Z, action=("any", "y", -1, 4)), freed(Z, "y", -1, 4))
        for word in ("when", "assume", "assert"):
            self.assertEqual(told(self, stepped, zone=Z, action=(word, c)), when(Z, c))
        self.assertEqual(told(self, stepped, zone=Z, action=("skip",)), closed(Z))
        self.assertEqual(told(self, stepped, zone=Z, action=("print", e)), closed(Z))
        for action in (("set", "q", name("r")), ("any", "q", 1, 1), ("assume", lt(name("q"), X)), ("skip",),
                       ("print", name("q"))):
            self.assertIsNone(told(self, stepped, zone=None, action=action))
        for action in (("set", "x", X), ("any", "x", 1, 1), ("assert", c), ("skip",), ("print", X)):
            self.assertIsNone(told(self, stepped, zone=NONE_LEFT, action=action))

    def test_refusals(self):
        for thing in WRONG + [thing for thing in any_objects() if thing is not None]:
            refused(self, BadZone, thing, stepped, thing, 17)
        wrong = [("set", "x"), ("set", 1, X), ("set", X, X), ("any", "x", 3, 2), ("any", "x", 0, True), ("skip", 1),
                 ("return", X), ("call", "x", "f", []), ("if", lt(X, X), [], []), ("while", lt(X, X), []), ("print",),
                 ("print", lt(X, X)), ("when", X), ("assert",), ("assume", lt(X, X), 1), "skip", ()]
        for zone in (None, Z):
            for thing in any_objects() + wrong + [("set", "x", one) for one in WRONG_EXPRESSIONS]:
                refused(self, BadAction, thing, stepped, zone, thing)
        for thing in (("set", "z", X), ("set", "0", X), ("any", "z", 0, 1), ("print", name("z")), ("set", "x", name("z")),
                      ("when", lt(X, name("z")))):
            refused(self, BadAction, thing, stepped, Z, thing)


class RisingTest(unittest.TestCase):
    def test_what_is_told_rises(self):
        source = random.Random(10)
        for _ in range(150):
            other = random_zone(source, dense=0.4, moduli=(0, 1, 2), boxed=source.random() < 0.5)
            zone = met(other, random_zone(source, dense=0.2, moduli=(1, 1, 3)))
            expression, condition = random_expression(source, 4, "xy"), random_condition(source, 2)
            self.assertTrue(is_below(drawn(zone, {"a": expression, "x": X}), drawn(other, {"a": expression, "x": X})))
            self.assertTrue(is_below(when(zone, condition), when(other, condition)))
            if closed(zone) is not None and most(other, expression) is not None:
                self.assertTrue(most(zone, expression) <= most(other, expression))


if __name__ == "__main__":
    unittest.main()
