"""[20.3] to [20.6], [20.8], and of [20.7] that no inputs part a program from itself: trees of two programs."""

import random
import unittest

from everypath.comparetrees import judged_tree
from everypath.comparing import compared, unlike_from, unlike_sides
from everypath.deciding import is_refutation
from everypath.errors import BadOther, BadProgram, BadSteps
from everypath.paths import followed, path_of
from everypath.programs import Program
from everypath.refusals import BadMany
from everypath.traces import is_parting, trace, traced
from tests.helpers import X, Y, add, any_objects, lt, num, p_program, program_of, refused, shape, times, told
from tests.samples import any_range
from tests.test_layers import NOT_MANY
from tests.test_paths import random_statements
from tests.test_runs import NOT_STEPS
from tests.texts import main_of, program_in

# main { x = any(0, 3); if x < 2 { x = 2 * x; } else { x = x + x; } print x; return 0; }
ONE = program_of(("any", "x", 0, 3), ("if", lt(X, num(2)), [("set", "x", times(2, X))], [("set", "x", add(X, X))]),
                 ("print", X), ("return", num(0)))
# main { y = any(0, 3); print 2 * y; return 0; }, and the same with print y + 2
OTHER = program_of(("any", "y", 0, 3), ("print", times(2, Y)), ("return", num(0)))
THIRD = program_of(("any", "y", 0, 3), ("print", add(Y, num(2))), ("return", num(0)))
ABS = main_of("x = any(-9, 9); if x < 0 { x = 0 - x; } print x; y = any(0, 3); assert x + y < 12; return x mod 4;")
ABSTWO = main_of("""x = any(-9, 9); if x >= 1 { print x; } else { print -1 * x; x = -1 * x; } y = any(0, 3);
                    if x == 9 and y == 3 { assert 1 == 0; } return x - 4 * (x // 4);""")
SUM = program_in("""def sum(n) { if n == 0 { return 0; } r = sum(n - 1); return r + n; }
                    def main() { n = any(0, 4); s = sum(n); print s; }""")
SUMTWO = main_of("n = any(0, 4); s = 0; while n > 0 { s = s + n; n = n - 1; } print s; return 0;")


def nodes(tree, way=()):
    """(way, node) of all nodes of a tree, each ahead of those within it; a way tells the places of the parts."""
    yield way, tree
    inner = {"one": (1, 2), "other": (1, 2), "equal": (3,)}.get(tree[0], ())
    for place in inner:
        yield from nodes(tree[place], (*way, place))


def put(tree, way, thing):
    """The tree with this thing in the place of what stands there."""
    if not way:
        return thing
    parts = list(tree)
    parts[way[0]] = put(tree[way[0]], way[1:], thing)
    return tuple(parts)


def sides_there(tree, way):
    """The sides of both at a node of a tree."""
    found = ([], [])
    for place in way:
        if tree[0] in ("one", "other"):
            found[0 if tree[0] == "one" else 1].append(place - 1)
        tree = tree[place]
    return found


def all_inputs(program, other, steps, most):
    """All lists of inputs that matter within so many steps: each program is given what it asks for."""
    found, waiting = [], [[]]
    while waiting:
        inputs = waiting.pop()
        found.append(inputs)
        for either in (program, other):
            why = path_of(either, inputs, steps)[1]
            if why[0] == "asks" and sum(event[0] == "asks" for event in trace(either, inputs, steps)) > len(inputs):
                low, high = any_range(either, why)
                waiting.extend([*inputs, n] for n in range(low, high + 1))
                break
        if len(found) + len(waiting) > most:
            return None
    return found


def changed(source, statements):
    """The statements with one thing in them changed, perhaps so that nothing is seen of it."""
    found = list(statements)
    at = source.randrange(len(found))
    word = found[at][0]
    if word in ("set", "print"):
        place = len(found[at]) - 1
        more = source.choice((num(0), num(1), ("sub", X, X), ("div", ("name", "z"), 5)))
        found[at] = (*found[at][:place], add(found[at][place], more))
    elif word == "if":
        found[at] = ("if", ("not", found[at][1]), found[at][3], found[at][2])
    elif word == "any":
        found[at] = ("any", found[at][1], found[at][2], found[at][3] + source.randrange(2))
    else:
        found.insert(at, ("set", "z", add(source.choice((X, Y, ("name", "z"))), num(0))))
    return found


def random_pair(source):
    g = ("g", ["a", "b"], [("if", lt(("name", "a"), ("name", "b")), [("return", ("name", "b"))], []),
                            ("return", ("name", "a"))])
    statements = [("any", "x", -2, 2), ("any", "y", 0, 2), ("set", "z", num(1)), *random_statements(source, 1)]
    statements.append(("print", add(X, Y)))
    other = changed(source, statements)
    return Program([g, ("main", [], statements)]), Program([g, ("main", [], other)])


class ComparingTest(unittest.TestCase):
    def test_example(self):
        alike = ("alike", ("one", ("end",), ("end",)))
        self.assertEqual(shape(told(self, compared, program=ONE, other=OTHER, steps=20, many=9)), shape(alike))
        self.assertEqual(trace(ONE, [1], 20), [("asks", 0, 3), ("prints", 2), ("ends", 0)])
        self.assertIsNone(told(self, judged_tree, program=ONE, other=OTHER, steps=20, thing=alike[1]))
        self.assertIs(is_parting(ONE, THIRD, [1], 20), True)
        self.assertIs(is_parting(ONE, THIRD, [2], 20), False)
        word, inputs = told(self, compared, program=ONE, other=THIRD, steps=20, many=9)
        self.assertEqual((word, is_parting(ONE, THIRD, inputs, 20)), ("parted", True))
        self.assertEqual(told(self, unlike_from, program=ONE, other=THIRD, steps=20, many=9), 5)
        self.assertIsNone(unlike_from(ONE, THIRD, 4, 9))
        self.assertEqual(unlike_from(ONE, THIRD, 5, 9), 5)
        self.assertEqual(shape(told(self, unlike_sides, program=ONE, other=THIRD, steps=20, many=9)),
                         shape([([0], [], 1), ([1], [], 1)]))
        self.assertIsNone(told(self, unlike_from, program=ONE, other=OTHER, steps=20, many=9))
        self.assertEqual(told(self, unlike_sides, program=ONE, other=OTHER, steps=20, many=9), [])

    def test_against_all_inputs(self):
        source = random.Random(5)
        seen = {}
        for _ in range(110):
            program, other = random_pair(source)
            steps = source.randrange(2, 24)
            lists = all_inputs(program, other, steps, 400)
            if lists is None:
                continue
            found = compared(program, other, steps, 300)
            parting = [inputs for inputs in lists if is_parting(program, other, inputs, steps)]
            seen[found[0]] = seen.get(found[0], 0) + 1
            self.assertEqual(found[0] == "parted", parting != [])
            soon = [within for within in range(steps + 1)
                    if any(is_parting(program, other, inputs, within) for inputs in parting)]
            self.assertEqual(unlike_from(program, other, steps, 300), soon[0] if soon else None)
            if parting:
                self.assertTrue(is_parting(program, other, found[1], steps))
            else:
                self.assertIsNone(judged_tree(program, other, steps, found[1]))
                self.right_tree(program, other, steps, found)
            self.ends_part(program, other, steps, parting)
        self.assertGreater(min(seen[word] for word in ("parted", "alike", "so far")), 8)

    def right_tree(self, program, other, steps, found):
        cuts = [node for _, node in nodes(found[1]) if node[0] == "cut"]
        self.assertEqual(found[0], "so far" if cuts else "alike")
        ends = [node for _, node in nodes(found[1]) if node[0] in ("cut", "end")]
        self.assertIsNone(compared(program, other, steps, len(ends) - 1) if len(ends) > 1 else None)
        self.assertIsNotNone(compared(program, other, steps, len(ends)))

    def ends_part(self, program, other, steps, parting):
        """That the ends are just those at whose sides some inputs part the two at this index for the first time."""
        told_ends = unlike_sides(program, other, steps, 300)
        self.assertEqual(told_ends, sorted(told_ends))
        for inputs in parting:
            one, two = trace(program, inputs, steps), trace(other, inputs, steps)
            index = [at for at, (event, second) in enumerate(zip(one, two)) if event != second][0]
            sides = path_of(program, inputs, steps)[0], path_of(other, inputs, steps)[0]
            here = [end for end in told_ends if all(part == whole[:len(part)] for part, whole in zip(end, sides))]
            self.assertEqual(len(here), 1)
            self.assertLessEqual(here[0][2], index)
        for one, two, index in told_ends:
            events = traced(program, one, steps)[0], traced(other, two, steps)[0]
            self.assertNotEqual(events[0][index], events[1][index])

    def test_pairs(self):
        for program, other in ((ABS, ABSTWO), (SUM, SUMTWO), (ONE, OTHER)):
            for one, two in ((program, other), (other, program)):
                word, tree = told(self, compared, program=one, other=two, steps=60, many=60)
                self.assertEqual(word, "alike")
                self.assertIsNone(told(self, judged_tree, program=one, other=two, steps=60, thing=tree))
                word, tree = compared(one, two, 4, 60)
                self.assertEqual(word, "so far")
                self.assertIsNone(judged_tree(one, two, 4, tree))
                self.assertIsNotNone(judged_tree(one, two, 60, tree))
            self.assertEqual(compared(ABS, SUM, 60, 60)[0], "parted")

    def test_none_part_a_program_from_itself(self):
        for program in (ABS, ABSTWO, SUM, SUMTWO, p_program()):
            word, tree = compared(program, program, 60, 60)
            self.assertEqual((word, judged_tree(program, program, 60, tree)), ("alike", None))
            self.assertIsNone(unlike_from(program, program, 60, 60))

    def test_many(self):
        for program, other, many in ((ONE, OTHER, 2), (ONE, THIRD, 2), (SUM, SUMTWO, 5)):
            for function in (compared, unlike_from, unlike_sides):
                lacking = None if function is compared else "many"
                self.assertEqual(told(self, function, program=program, other=other, steps=60, many=many - 1), lacking)
                self.assertNotEqual(function(program, other, 60, many), "many")
            self.assertIsNotNone(compared(program, other, 60, many))

    def test_no_steps(self):
        self.assertEqual(told(self, compared, program=ABS, other=SUM, steps=0, many=1), ("so far", ("cut",)))
        self.assertIsNone(unlike_from(ABS, SUM, 0, 1))
        self.assertEqual(compared(ABS, SUM, 1, 1), ("parted", []))
        self.assertEqual(unlike_from(ABS, SUM, 9, 30), 1)
        self.assertIsNone(judged_tree(ABS, SUM, 0, ("cut",)))
        self.assertEqual(shape(judged_tree(ABS, SUM, 1, ("cut",))), shape(([], [])))

    def test_kinds_of_ends(self):
        for one, other, sides in (
                ("x = any(0, 1); print x;", "x = any(0, 2); print x;", ([], [], 0)),
                ("assert 0 == 1;", "assume 0 == 1;", ([1], [1], 0)),
                ("x = 1; print x;", "return 1;", ([], [], 0)),
                ("x = any(0, 5); return x;", "x = any(0, 5); print x; return x;", ([], [], 1)),
                ("x = any(0, 5); return x;", "x = any(0, 5); return x // 5;", ([], [], 1))):
            one, other = main_of(one), main_of(other)
            self.assertEqual(told(self, unlike_sides, program=one, other=other, steps=20, many=9), [sides])
            word, inputs = compared(one, other, 20, 9)
            self.assertEqual((word, is_parting(one, other, inputs, 20)), ("parted", True))
            for tree in (("end",), ("cut",), ("one", ("end",), ("end",)), ("equal", None, None, ("end",))):
                self.assertIsNotNone(judged_tree(one, other, 20, tree))
        self.assertEqual(compared(main_of("assert 0 == 1;"), main_of("x = 3; assert x == 1;"), 20, 9)[0], "alike")

    def test_refutations(self):
        word, tree = compared(ABS, ABSTWO, 60, 60)
        found = {"never": 0, "equal": 0}
        for way, node in nodes(tree):
            one, two = sides_there(tree, way)
            conditions = followed(ABS, one, 60)[2] + followed(ABSTWO, two, 60)[2]
            ranges = [ranges for ranges in ([(-9, 9)], [(-9, 9), (0, 3)])
                      if len(ranges) == 2 or "u1" not in str(conditions)]
            if node[0] == "never":
                found["never"] += 1
                self.assertTrue(any(is_refutation(part, conditions, node[1]) for part in ranges))
            if node[0] == "equal":
                found["equal"] += 1
        self.assertEqual(word, "alike")
        self.assertGreater(min(found.values()), 0)

    def test_each_change_is_told(self):
        for program, other, steps in ((ABS, ABSTWO, 60), (SUM, SUMTWO, 60), (ABS, ABSTWO, 5), (ONE, OTHER, 20)):
            tree = compared(program, other, steps, 60)[1]
            for way, node in nodes(tree):
                sides = sides_there(tree, way)
                for thing in self.changes(node):
                    self.assertEqual(shape(judged_tree(program, other, steps, put(tree, way, thing))), shape(sides))
                if node[0] == "equal":
                    self.assertEqual(judged_tree(program, other, steps, put(tree, way, node[3])), sides)
                elif node[0] in ("one", "other"):
                    turned = {"one": "other", "other": "one"}[node[0]]
                    self.assertEqual(judged_tree(program, other, steps, put(tree, way, (turned, *node[1:]))), sides)

    def changes(self, node):
        """What must not stand in the place of a node."""
        found = [None, 7, "end", (), [], (None,), ("end", 1), ("cut", 1), (node,), ("never",), ("never", None),
                 ("never", ("rows", [("sums", [])])), ("one", node), ("other", node), ("equal", node), ("sides", node, node)]
        found += [(word,) for word in ("end", "cut", "one", "never") if node != (word,)]
        if node[0] == "equal":
            refutations = (None, ("rows", []), ("rows", [("sums", [[1]])]), ("or", 0, []))
            found += [("equal", r, node[2], node[3]) for r in refutations]
            found += [("equal", node[1], r, node[3]) for r in refutations] + [(*node, node), node[:3]]
        if node[0] in ("one", "other"):
            found += [node[:2], (*node, node)]
        return found

    def test_a_side_in_the_place_of_another(self):
        tree = compared(ABS, ABSTWO, 60, 60)[1]
        for way, node in nodes(tree):
            if node[0] in ("one", "other") and node[1][0] != node[2][0]:
                found = judged_tree(ABS, ABSTWO, 60, put(tree, way, (node[0], node[2], node[1])))
                one, two = sides_there(tree, (*way, 1))
                self.assertEqual((found[0][:len(one)], found[1][:len(two)]), (one, two))

    def test_never_at_the_index_of_the_side(self):
        one = main_of("x = any(0, 1); if x < 5 { print 1; } y = any(0, 9); return y;")
        other = main_of("x = any(0, 1); print 1; y = any(0, 9); return y;")
        word, tree = compared(one, other, 30, 9)
        self.assertEqual((word, tree[0], tree[1], tree[2][0]), ("alike", "one", ("end",), "never"))
        self.assertTrue(is_refutation([(0, 1)], followed(one, [1], 30)[2], tree[2][1]))
        later = ("never", ("rows", [("sums", [[0, *[0] * 4], [0] * 6])]))
        self.assertEqual(judged_tree(one, other, 30, ("one", ("end",), later)), ([1], []))

    def test_other_objects(self):
        for thing in any_objects():
            self.assertEqual(judged_tree(ONE, OTHER, 20, thing), ([], []))
            self.assertEqual(judged_tree(ONE, OTHER, 20, ("one", thing, thing)), ([0], []))
            self.assertEqual(judged_tree(ONE, OTHER, 20, ("one", ("never", thing), thing)), ([0], []))
            self.assertEqual(judged_tree(ABS, ABS, 20, ("equal", thing, thing, thing)), ([], []))
            self.assertEqual(judged_tree(ONE, OTHER, 20, (thing, thing, thing)), ([], []))

    def test_refusals(self):
        program = p_program()
        for thing in any_objects():
            if not isinstance(thing, Program):
                for function in (compared, unlike_from, unlike_sides, judged_tree):
                    refused(self, BadProgram, thing, function, thing, None, None, None)
                    refused(self, BadOther, thing, function, program, thing, None, None)
        for thing in NOT_STEPS:
            for function in (compared, unlike_from, unlike_sides, judged_tree):
                refused(self, BadSteps, thing, function, program, program, thing, None)
        for thing in NOT_MANY:
            for function in (compared, unlike_from, unlike_sides):
                refused(self, BadMany, thing, function, program, program, 3, thing)


if __name__ == "__main__":
    unittest.main()
