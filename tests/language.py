"""Checks files of the package against the rules of LANGUAGE.md that a reading of the code can tell."""

import ast
import builtins
import os

FOLDER = os.path.join(os.path.dirname(os.path.dirname(os.path.abspath(__file__))), "everypath")
BUILTIN_NAMES = dir(builtins)
LIBRARY = {"math": ("gcd", "lcm", "isqrt", "comb"), "heapq": ("heappush", "heappop"), "itertools": ("product",)}
BUILTINS = ("len range enumerate zip min max sum abs sorted reversed int str bool list tuple dict set isinstance ord "
            "repr any all divmod ValueError KeyError True False None").split()
METHODS = ("append clear copy count endswith extend find get index insert isalnum isalpha isdigit items join keys "
           "lower lstrip partition pop remove replace reverse rfind rstrip setdefault split startswith strip update "
           "upper values zfill isupper bit_length").split()
BARRED_NAMES = ("register mro elements open input law version_info attrgetter breakpoint builtins compile copyright "
                "credits delattr dir eval exec exit gc getattr globals hasattr help id importlib license locals os "
                "methodcaller quit setattr super type vars sys format args").split()
BARRED_WORDS = ("typing enum Enum IntEnum Flag Generic Protocol ABC namedtuple NamedTuple TypedDict").split()
VIEWS = ("items", "keys", "values")
AT_ONCE = ("zip", "enumerate", "reversed", "range")
TAKERS = ("list", "tuple", "dict", "sorted", "sum", "any", "all", "enumerate", "zip", "min", "max")
CHANGES = ("append", "clear", "extend", "insert", "pop", "remove", "reverse", "setdefault", "update", "add", "discard")
ONE_ARGUMENT = ("append", "extend", "remove", "add", "discard", "update")
STATEMENTS = (ast.Assign, ast.AugAssign, ast.If, ast.While, ast.For, ast.Return, ast.Break, ast.Continue, ast.Pass,
              ast.Raise, ast.Delete, ast.Expr, ast.FunctionDef, ast.ClassDef, ast.ImportFrom)
BARRED_NODES = (ast.GeneratorExp, ast.Yield, ast.YieldFrom, ast.NamedExpr, ast.Await, ast.AnnAssign, ast.Div,
                ast.Global, ast.Nonlocal, ast.With, ast.Try, ast.Match, ast.Assert)


# what no attribute may be called: what builtin values have, but for these
TAKEN_NAMES = {name for kind in (str, int, list, dict, set, bytes) for name in dir(kind)} - {
    "count", "index", "title", "find", "get", "join", "lower", "upper", "split", "strip", "copy", "add"}


def package_files():
    return sorted(name for name in os.listdir(FOLDER) if name != "__pycache__")


def unlike_methods(trees):
    """The names of methods that take more arguments in one class than in another one."""
    many = {}
    for tree in trees.values():
        for node in [node for node in ast.walk(tree) if isinstance(node, ast.ClassDef)]:
            for part in node.body:
                if isinstance(part, ast.FunctionDef) and not part.name.startswith("__"):
                    many.setdefault(part.name, set()).add(len(part.args.args))
    return sorted(name for name in many if len(many[name]) > 1)


def faults_of_package():
    """All faults found, as texts: file, line, what is wrong."""
    found = []
    trees = {}
    for name in package_files():
        if not name.endswith(".py") or name != name.lower():
            found.append(f"{name}: no file of the package")
            continue
        with open(os.path.join(FOLDER, name), encoding="utf-8") as handle:
            text = handle.read()
        trees[name[:-3]] = ast.parse(text)
        found.extend(faults_of_text(name, text))
    methods = own_methods(trees)
    for name in sorted(methods & attributes(trees)):
        found.append(f"{name} is a method and an attribute")
    for name in sorted(attributes(trees) & TAKEN_NAMES):
        found.append(f"{name} is a method of builtin values and an attribute")
    for name in unlike_methods(trees):
        found.append(f"methods called {name} take unlike many arguments")
    for module, tree in trees.items():
        for line, fault in faults_of_tree(tree, trees, methods):
            found.append(f"{module}.py:{line}: {fault}")
    found.extend(cycles(trees))
    return found


def faults_of_text(name, text):
    found = []
    lines = text.split("\n")
    if len(lines) > 400:
        found.append(f"{name}: {len(lines) - 1} lines")
    for at, line in enumerate(lines):
        if len(line) > 120:
            found.append(f"{name}:{at + 1}: too long")
        if any(not " " <= sign <= "~" for sign in line):
            found.append(f"{name}:{at + 1}: a sign that may not stand")
        if line.rstrip() != line:
            found.append(f"{name}:{at + 1}: blanks at the end")
    return found


def own_methods(trees):
    found = set()
    for tree in trees.values():
        for node in tree.body:
            if isinstance(node, ast.ClassDef):
                found.update(part.name for part in node.body if isinstance(part, ast.FunctionDef))
    return found


def attributes(trees):
    """The attributes that some object is given."""
    return {node.attr for tree in trees.values() for node in ast.walk(tree)
            if isinstance(node, ast.Attribute) and isinstance(node.ctx, ast.Store)}


def faults_of_tree(tree, trees, methods):
    for node in ast.walk(tree):
        for child in ast.iter_child_nodes(node):
            child.parent = node
    yield from module_level(tree)
    yield from import_faults(tree, trees)
    for node in ast.walk(tree):
        yield from node_faults(node, methods)
    yield from name_faults(tree)
    yield from unused(tree)


def module_level(tree):
    bound = []
    for at, node in enumerate(tree.body):
        if isinstance(node, ast.Expr) and at == 0 and isinstance(node.value, ast.Constant):
            continue
        if isinstance(node, ast.ImportFrom):
            bound.extend(part.asname or part.name for part in node.names)
        elif isinstance(node, (ast.FunctionDef, ast.ClassDef)):
            bound.append(node.name)
        elif isinstance(node, ast.Assign) and len(node.targets) == 1 and isinstance(node.targets[0], ast.Name):
            bound.append(node.targets[0].id)
            if any(isinstance(part, (ast.Call, ast.ListComp, ast.BinOp)) for part in ast.walk(node.value)):
                yield node.lineno, "no plain value"
            inner = [part for part in ast.walk(node.value) if isinstance(part, (ast.List, ast.Dict))]
            if any(part is not node.value for part in inner):
                yield node.lineno, "a list or dict within another value of the module"
        else:
            yield node.lineno, "may not stand at module level"
    for name in set(bound):
        if bound.count(name) > 1:
            yield 1, f"{name} is bound twice"


def import_faults(tree, trees):
    head = True
    for node in tree.body:
        if isinstance(node, ast.ImportFrom):
            if not head:
                yield node.lineno, "import behind other things"
            yield from one_import(node, trees)
        elif not (isinstance(node, ast.Expr) and isinstance(node.value, ast.Constant)):
            head = False


def one_import(node, trees):
    if node.module in LIBRARY:
        for part in node.names:
            if part.name not in LIBRARY[node.module] or part.asname:
                yield node.lineno, f"{part.name} may not be imported"
        return
    folder, _, module = (node.module or "").partition(".")
    if folder != "everypath" or module not in trees or node.level:
        yield node.lineno, "import from elsewhere"
        return
    defined = [part.name for part in trees[module].body if isinstance(part, (ast.FunctionDef, ast.ClassDef))]
    defined += [part.targets[0].id for part in trees[module].body if isinstance(part, ast.Assign)]
    for part in node.names:
        if part.name not in defined or part.asname:
            yield node.lineno, f"{part.name} is not defined in {module}"


def node_faults(node, methods):
    if isinstance(node, BARRED_NODES):
        yield node.lineno if hasattr(node, "lineno") else 0, f"{type(node).__name__} is not used here"
    if isinstance(node, ast.stmt) and not isinstance(node, STATEMENTS):
        yield node.lineno, f"{type(node).__name__} is no statement of this language"
    if isinstance(node, ast.FunctionDef):
        yield from function_faults(node)
    if isinstance(node, ast.ClassDef) and (node.decorator_list or node.keywords):
        yield node.lineno, "decorator or keyword of a class"
    if isinstance(node, ast.Call):
        yield from call_faults(node, methods)
    if isinstance(node, ast.Compare):
        yield from compare_faults(node)
    if isinstance(node, ast.BinOp) and isinstance(node.op, ast.Pow):
        if not (isinstance(node.right, ast.Constant) and 0 <= node.right.value <= 64):
            yield node.lineno, "exponent"
    if isinstance(node, ast.Constant):
        yield from constant_faults(node)
    if isinstance(node, ast.Raise):
        if not (isinstance(node.exc, ast.Call) and isinstance(node.exc.func, ast.Name)):
            yield node.lineno, "raise of what is not made on the spot"
    if isinstance(node, (ast.Set, ast.SetComp)):
        yield from set_faults(node)
    if isinstance(node, (ast.For, ast.comprehension)):
        yield from loop_faults(node)
    if isinstance(node, ast.Delete):
        if not all(isinstance(part, ast.Subscript) for part in node.targets):
            yield node.lineno, "del of what is no item"


def function_faults(node):
    if node.end_lineno - node.lineno + 1 > 40:
        yield node.lineno, f"{node.name} has {node.end_lineno - node.lineno + 1} lines"
    if node.decorator_list or node.returns:
        yield node.lineno, "decorator or annotation"
    if node.name.startswith("__") and node.name not in ("__init__", "__eq__"):
        yield node.lineno, "double-underscore method"
    for default in node.args.defaults:
        if not isinstance(default, (ast.Constant, ast.Tuple)):
            yield node.lineno, "default value"
    for part in node.args.args:
        if part.annotation:
            yield node.lineno, "annotation"
    if node.args.vararg or node.args.kwarg or node.args.kwonlyargs:
        yield node.lineno, "stars among parameters"
    if isinstance(node.parent, ast.Module) and ast.get_docstring(node) == "":
        yield node.lineno, "empty docstring"


def call_faults(node, methods):
    func = node.func
    if isinstance(func, ast.Name):
        if func.id in AT_ONCE and not is_iterated(node):
            yield node.lineno, f"{func.id} is not iterated at once"
        if func.id == "set":
            yield from set_faults(node)
        if func.id in BUILTINS:
            allowed = {"sorted": ("key", "reverse"), "min": ("key", "default"), "max": ("key", "default"),
                       "sum": ("start",), "enumerate": ("start",), "zip": ("strict",)}.get(func.id, ())
            if any(word.arg not in allowed for word in node.keywords):
                yield node.lineno, f"keyword of {func.id}"
    elif isinstance(func, ast.Attribute):
        if func.attr in VIEWS and not is_iterated(node):
            yield node.lineno, f"{func.attr} is not iterated at once"
        if func.attr not in METHODS and func.attr not in methods and func.attr not in ("add", "discard"):
            yield node.lineno, f"method {func.attr}"
        if func.attr in METHODS and node.keywords:
            yield node.lineno, f"keyword of {func.attr}"
        if func.attr in ONE_ARGUMENT and len(node.args) != 1:
            yield node.lineno, f"{func.attr} takes one argument"
    else:
        yield node.lineno, "call of what is no name and no method"
    if any(isinstance(part, ast.Starred) for part in node.args):
        if not isinstance(func, ast.Name) or func.id in BUILTINS and func.id not in ("min", "max", "zip"):
            yield node.lineno, "star in a call"
        if func.id in [name for names in LIBRARY.values() for name in names]:
            yield node.lineno, "star in a call of the library"
    if any(word.arg is None for word in node.keywords):
        yield node.lineno, "two stars in a call"


def is_iterated(node):
    parent = node.parent
    if isinstance(parent, (ast.For, ast.comprehension)):
        return parent.iter is node
    if isinstance(parent, ast.Compare):
        return isinstance(parent.ops[0], (ast.In, ast.NotIn)) and node.func.__class__ is ast.Name \
            and node.func.id == "range"
    if isinstance(parent, ast.Call) and isinstance(parent.func, ast.Name):
        if parent.func.id == "reversed":
            return isinstance(node.func, ast.Name) and node.func.id == "range"
        return parent.func.id in TAKERS and parent.args[0] is node
    return False


def compare_faults(node):
    for op, right in zip(node.ops, node.comparators):
        if isinstance(op, (ast.Is, ast.IsNot)):
            if not (isinstance(right, ast.Constant) and right.value in (None, True, False)):
                yield node.lineno, "is"


def constant_faults(node):
    if isinstance(node.value, float):
        yield node.lineno, "float"
    if isinstance(node.value, bytes):
        yield node.lineno, "bytes"
    if isinstance(node.value, str):
        if "%" in node.value or node.value.startswith("__"):
            yield node.lineno, "string"
        if any(word in node.value.split() for word in BARRED_WORDS):
            yield node.lineno, "word in a string"


def set_faults(node):
    parent = node.parent
    if isinstance(parent, ast.Compare) and node is not parent.left or isinstance(parent, ast.BinOp):
        return
    if isinstance(parent, ast.Call) and isinstance(parent.func, ast.Name) and parent.func.id in ("sorted", "len"):
        return
    if isinstance(parent, ast.Assign) and len(parent.targets) == 1 and isinstance(parent.targets[0], ast.Name):
        yield from stored_set_faults(parent)
        return
    yield node.lineno, "a set in a place that it may not have"


def stored_set_faults(assign):
    name = assign.targets[0].id
    function = assign
    while not isinstance(function, ast.FunctionDef):
        function = function.parent
    for node in ast.walk(function):
        if not isinstance(node, ast.Name) or node.id != name or node is assign.targets[0]:
            continue
        parent = node.parent
        fine = isinstance(parent, ast.Attribute) and parent.attr in ("add", "discard") \
            and isinstance(parent.parent.parent, ast.Expr)
        fine = fine or isinstance(parent, ast.Compare) and node is not parent.left \
            and isinstance(parent.ops[0], (ast.In, ast.NotIn, ast.Eq, ast.NotEq))
        fine = fine or isinstance(parent, ast.Call) and isinstance(parent.func, ast.Name) \
            and parent.func.id in ("len", "sorted")
        fine = fine or isinstance(parent, (ast.If, ast.While)) and parent.test is node
        if not fine:
            yield node.lineno, f"use of the set {name}"


def loop_faults(node):
    """What a loop goes over is not changed in it."""
    over = [node.iter]
    if isinstance(node.iter, ast.Call) and isinstance(node.iter.func, ast.Name):
        if node.iter.func.id in ("enumerate", "zip", "reversed"):
            over = list(node.iter.args)
    if isinstance(node.iter, ast.Call) and isinstance(node.iter.func, ast.Attribute) and node.iter.func.attr in VIEWS:
        over = [node.iter.func.value]
    told = [ast.dump(part).replace("Store()", "Load()") for part in over]
    body = node.body if isinstance(node, ast.For) else [node.parent]
    for statement in body:
        for part in ast.walk(statement):
            changed = None
            if isinstance(part, ast.Call) and isinstance(part.func, ast.Attribute) and part.func.attr in CHANGES:
                changed = part.func.value
            if isinstance(part, ast.Subscript) and isinstance(part.ctx, (ast.Store, ast.Del)):
                changed = part.value
            if isinstance(part, ast.AugAssign):
                changed = part.target
            if changed is not None and ast.dump(changed).replace("Store()", "Load()") in told:
                yield part.lineno, "changes what a loop goes over"


def name_faults(tree):
    taken = set()
    for node in tree.body:
        if isinstance(node, ast.ImportFrom):
            taken.update(part.name for part in node.names)
        if isinstance(node, ast.ClassDef):
            taken.add(node.name)
    own = taken | {node.name for node in tree.body if isinstance(node, ast.FunctionDef)}
    known = own | {node.targets[0].id for node in tree.body if isinstance(node, ast.Assign)}
    for node in ast.walk(tree):
        name, binds = bound_name(node)
        if name is None:
            continue
        if binds:
            if name in BUILTIN_NAMES or name in BARRED_NAMES:
                yield node_line(node), f"{name} is the name of something else"
            barred = taken if isinstance(node, ast.arg) else own
            if name in barred and not isinstance(node.parent, ast.Module) and not is_method(node):
                yield node_line(node), f"{name} is a name of the file"
            if name.startswith("__") and not is_method(node):
                yield node_line(node), name
        elif name in BUILTIN_NAMES and name not in BUILTINS and name not in known:
            yield node_line(node), f"builtin {name}"
    yield from comprehension_faults(tree)


def node_line(node):
    return getattr(node, "lineno", 0)


def is_method(node):
    return isinstance(node, ast.FunctionDef) and isinstance(node.parent, ast.ClassDef)


def bound_name(node):
    """A name that a node has, and whether it binds it."""
    if isinstance(node, ast.Name):
        return node.id, isinstance(node.ctx, ast.Store) and not isinstance(node.parent.parent, ast.Module)
    if isinstance(node, ast.arg):
        return node.arg, True
    if isinstance(node, (ast.FunctionDef, ast.ClassDef)):
        return node.name, True
    return None, False


def comprehension_faults(tree):
    """Within another comprehension or a nested function a variable has a name of its own."""
    for node in ast.walk(tree):
        if not isinstance(node, (ast.ListComp, ast.DictComp, ast.SetComp, ast.Lambda)):
            continue
        names = variables_of(node)
        outer = node.parent
        while not isinstance(outer, ast.Module):
            if isinstance(outer, (ast.ListComp, ast.DictComp, ast.SetComp, ast.Lambda)):
                if names & variables_of(outer):
                    yield node.lineno, f"variables {names & variables_of(outer)} of two comprehensions"
            outer = outer.parent
        functions = functions_around(node)
        for function in functions[:len(functions) if len(functions) > 1 else 0]:
            assigned = {part.id for part in ast.walk(function) if isinstance(part, ast.Name)
                        and isinstance(part.ctx, ast.Store) and not in_comprehension(part, function)}
            assigned |= {part.arg for part in function.args.args}
            if names & assigned:
                yield node.lineno, f"variables {names & assigned} are variables of the function, too"


def in_comprehension(node, function):
    while node is not function:
        if isinstance(node, ast.comprehension):
            return True
        node = node.parent
    return False


def functions_around(node):
    found = []
    while not isinstance(node, ast.Module):
        if isinstance(node, ast.FunctionDef):
            found.append(node)
        node = node.parent
    return found


def variables_of(node):
    if isinstance(node, ast.Lambda):
        return {part.arg for part in node.args.args}
    return {part.id for generator in node.generators for part in ast.walk(generator.target)
            if isinstance(part, ast.Name) and part.id != "_"}


def unused(tree):
    """Imports and functions' variables that nothing reads."""
    read = {node.id for node in ast.walk(tree) if isinstance(node, ast.Name) and isinstance(node.ctx, ast.Load)}
    for node in tree.body:
        if isinstance(node, ast.ImportFrom):
            for part in node.names:
                if part.name not in read:
                    yield node.lineno, f"{part.name} is imported and not used"
    for function in [node for node in ast.walk(tree) if isinstance(node, ast.FunctionDef)]:
        inside = {node.id for node in ast.walk(function)
                  if isinstance(node, ast.Name) and isinstance(node.ctx, ast.Load)}
        for node in ast.walk(function):
            if isinstance(node, ast.Name) and isinstance(node.ctx, ast.Store) and node.id not in inside:
                if node.id != "_":
                    yield node.lineno, f"{node.id} is never read"


def cycles(trees):
    """Files that import from each other."""
    reach = {module: {node.module.partition(".")[2] for node in tree.body if isinstance(node, ast.ImportFrom)
                      and node.module.startswith("everypath.")} for module, tree in trees.items()}
    for by in reach:
        for module in reach:
            if by in reach[module]:
                reach[module] |= reach[by]
    return [f"{module}.py: imports itself through others" for module in reach if module in reach[module]]
