"""The rules of ../shared/LANGUAGE.md, as far as they can be told from the syntax."""

import ast
import builtins
import os
import re
import unittest

ROOT = os.path.join(os.path.dirname(os.path.abspath(__file__)), os.pardir)
FOLDER = os.path.join(ROOT, "allbrokers")

BUILTINS = set("""len range enumerate zip min max sum abs sorted reversed int str bool bytes list tuple dict set frozenset
isinstance ord repr any all divmod getattr hasattr setattr iter next type Exception ValueError TypeError KeyError IndexError
LookupError ZeroDivisionError ArithmeticError OverflowError RuntimeError NotImplementedError AttributeError StopIteration
NotImplemented property classmethod staticmethod super""".split())

METHODS = set("""append clear copy count endswith extend find get index insert isalnum isalpha isdigit islower isspace isupper
items join keys ljust lower lstrip partition pop remove replace reverse rfind rjust rpartition rsplit rstrip setdefault split
splitlines startswith strip update upper values zfill bit_length isascii add discard""".split())

SPECIAL = set("""__init__ __eq__ __repr__ __str__ __len__ __enter__ __exit__ __call__ __iter__ __lt__ __le__ __gt__ __ge__ __ne__
__add__ __sub__ __mul__ __and__ __or__ __bool__ __contains__ __getitem__ __setitem__""".split())

BARRED = set("""typing typing_extensions enum Enum IntEnum StrEnum Flag IntFlag Generic Protocol ABC ABCMeta namedtuple
NamedTuple TypedDict TYPE_CHECKING abstractmethod register mro elements open input law exit vars dir id eval exec""".split())

# What the interface of DOC.md lists, of the modules that are written.
INTERFACE = {
    "errors": """BrokerError BadMachine BadStates BadRun BadAllowances BadKinds BadFormula BadSettings NoPromise TooLarge BadPrices
        NoSettings NotSeen BadText BadName NoPart NothingDone""",
    "machines": "Machine last_state trace_of union",
    "falls": "Least least_falls falls_of holds_for is_within least_of",
    "limits": "Limits",
    "walking": "runs stepper is_seen far_states",
    "promises": "Kept Broken judge_never Able Stuck Farthest judge_can farthest dead_states",
    "delays": "Longest Endless delay",
    "outside": "Alike Unlike judge_alike is_trace",
    "watching": "Told Hidden tells watch Watcher",
    "barring": "Barring barring",
    "merging": "classes merged do_the_same told_apart holds",
    "joining": "joined hidden renamed",
    "building": "",
    "settings": "",
    "routes": "Route Case",
    "links": "Link LinkCase",
    "choices": "judge Choices Cheapest cheapest",
    "texts": "read_machine write_machine read_settings write_settings",
    "books": "Book",
    "reports": "report",
    "readererrors": "BadReader BadLane BadRule BadQuestion BadTimes BadDeal BadBounds NoDeal",
    "readers": "Reader behind_rows least Alike Apart judge_alike",
    "questions": "holds reader_of",
    "questiontexts": "read_question write_question",
    "squeezing": "Rule Unseen Seen judge_rule",
    "coarsest": "least_rule coarsest coarsest_of both either within drops_more keeping_last",
    "lastrows": "LastRows Never last_rows",
    "weaving": "Woven Unwoven judge_weaving",
    "times": "Times greatest_lag lags lag_lines Lag Growing",
    "keeping": "least_keeping Keep Rate least_rate",
    "deals": "Moves least_moves",
    "flows": "",
    "histories": "History least_history",
    "handing": "Order Barred hand_over",
}

OWN_METHODS = {
    "Machine": "behind reached without showing __len__ __eq__",
    "Limits": """any_of told is_below text __getitem__ __contains__ __len__ __iter__ __bool__ __eq__ __or__ __and__ __add__ __sub__
        __mul__""",
    "Watcher": "ask see known __call__ __len__ __iter__",
    "Route": "settings __eq__",
    "Case": "out bad",
    "Link": "settings __eq__",
    "LinkCase": "bad",
    "Choices": "rows",
    "Book": """titles entries claim promises_of change undo broken trial attempt __getitem__ __setitem__ __contains__ __len__
        __iter__""",
    "Reader": "after answer __call__ __len__ __eq__",
    "Rule": "kept squeezed __eq__",
    "Unwoven": "weavings",
    "Times": "at up_to ticks __getitem__ __iter__ __add__ __mul__ __eq__",
    "Lag": "__eq__ __bool__",
    "Growing": "__eq__ __bool__",
    "Keep": "__eq__ __bool__",
}
EVIDENCE = """Least Kept Broken Able Stuck Farthest Longest Endless Alike Unlike Told Hidden Barring Cheapest Apart Unseen Seen LastRows
    Never Woven Unwoven Rate Moves History Order Barred""".split()
# Words of the library that may be imported, and then are called alone.
LIBRARY = {"math": ["lcm"]}


def trees():
    found = {}
    for name in sorted(os.listdir(FOLDER)):
        if name.endswith(".py"):
            with open(os.path.join(FOLDER, name), encoding="utf-8") as file:
                found[name[:-3]] = file.read()
    return {name: (text, ast.parse(text)) for name, text in found.items()}


TREES = trees()


def nodes(*kinds):
    for name, (_, tree) in TREES.items():
        for node in ast.walk(tree):
            if isinstance(node, kinds):
                yield name, node


def defined(tree):
    return [node.name for node in tree.body if isinstance(node, (ast.FunctionDef, ast.ClassDef))]


def constants(tree):
    return [node.targets[0].id for node in tree.body if isinstance(node, ast.Assign)]


class Files(unittest.TestCase):
    def test_folder(self):
        for name in os.listdir(FOLDER):
            self.assertTrue(re.fullmatch("[a-z0-9_]+[.]py", name) or name == "__pycache__", name)

    def test_lines_and_characters(self):
        for name, (text, _) in TREES.items():
            self.assertLessEqual(len(text.splitlines()), 399, name)
            self.assertTrue(all(char == "\n" or " " <= char <= "~" for char in text), name)
            for line in text.splitlines():
                self.assertLessEqual(len(line), 120, (name, line))
            self.assertNotRegex(text, r"dataclass|overload|contextmanager|\(type\)|Meta|metaclass=|_wall")

    def test_functions_are_short(self):
        for name, node in nodes(ast.FunctionDef):
            self.assertLessEqual(node.end_lineno - node.lineno + 1, 40, (name, node.name))


class Modules(unittest.TestCase):
    def test_module_level(self):
        allowed = (ast.Import, ast.ImportFrom, ast.FunctionDef, ast.ClassDef, ast.Assign)
        for name, (_, tree) in TREES.items():
            self.assertIsNotNone(ast.get_docstring(tree), name)
            for node in tree.body[1:]:
                self.assertIsInstance(node, allowed, name)
                if isinstance(node, ast.Assign):
                    ast.literal_eval(node.value)

    def test_imports(self):
        for name, node in nodes(ast.Import, ast.ImportFrom):
            self.assertIsInstance(node, ast.ImportFrom, name)
            if node.module in LIBRARY:
                self.assertLessEqual({alias.name for alias in node.names}, set(LIBRARY[node.module]))
                continue
            package, module = node.module.split(".")
            self.assertEqual((package, node.level), ("allbrokers", 0))
            names = defined(TREES[module][1]) + constants(TREES[module][1])
            for alias in node.names:
                self.assertIsNone(alias.asname)
                self.assertIn(alias.name, names, (name, module))

    def test_imports_are_used(self):
        for name, (_, tree) in TREES.items():
            used = {node.id for node in ast.walk(tree) if isinstance(node, ast.Name)}
            for node in ast.walk(tree):
                if isinstance(node, ast.ImportFrom):
                    for alias in node.names:
                        self.assertIn(alias.name, used, name)

    def test_no_cycles(self):
        ahead = {name: set() for name in TREES}
        for name, node in nodes(ast.ImportFrom):
            if node.module not in LIBRARY:
                ahead[name].add(node.module.split(".")[1])
        left = dict(ahead)
        while left:
            free = [name for name in left if not left[name] & set(left)]
            self.assertTrue(free, left)
            for name in free:
                del left[name]


class Names(unittest.TestCase):
    def test_builtins(self):
        for name, node in nodes(ast.Name):
            if hasattr(builtins, node.id):
                self.assertIn(node.id, BUILTINS, (name, node.lineno))
                self.assertIsInstance(node.ctx, ast.Load, (name, node.lineno))

    def test_no_parameter_hides_a_builtin_class_or_import(self):
        for name, (_, tree) in TREES.items():
            taken = {node.name for node in tree.body if isinstance(node, ast.ClassDef)}
            taken |= {alias.name for node in tree.body if isinstance(node, ast.ImportFrom) for alias in node.names}
            for node in ast.walk(tree):
                words = [node.arg] if isinstance(node, ast.arg) else []
                if isinstance(node, ast.Name) and isinstance(node.ctx, ast.Store):
                    words = [node.id]
                for word in words:
                    self.assertNotIn(word, taken, name)
                    self.assertFalse(hasattr(builtins, word), (name, word))

    def test_barred_words(self):
        for name, node in nodes(ast.Name, ast.arg, ast.Attribute, ast.FunctionDef, ast.ClassDef):
            for field in ("id", "arg", "attr", "name"):
                self.assertNotIn(getattr(node, field, None), BARRED, name)

    def test_special_methods(self):
        for name, node in nodes(ast.FunctionDef):
            if node.name.startswith("__"):
                self.assertIn(node.name, SPECIAL, name)

    def test_methods(self):
        own = {node.name for _, node in nodes(ast.FunctionDef)}
        for name, node in nodes(ast.Call):
            if isinstance(node.func, ast.Attribute) and not node.func.attr.startswith("__"):
                self.assertIn(node.func.attr, METHODS | own, (name, node.lineno))

    def test_attributes_are_assigned_or_defined(self):
        known = {node.name for _, node in nodes(ast.FunctionDef)} | METHODS
        known |= {node.attr for _, node in nodes(ast.Attribute) if isinstance(node.ctx, ast.Store)}
        known |= {value for _, node in nodes(ast.ClassDef) for value in constants(node)}
        for name, node in nodes(ast.Attribute):
            self.assertTrue(node.attr in known or node.attr == "__init__", (name, node.attr))

    def test_no_name_is_method_and_attribute_of_one_class(self):
        for name, node in nodes(ast.ClassDef):
            methods = {part.name for part in node.body if isinstance(part, ast.FunctionDef)}
            stored = {part.attr for part in ast.walk(node) if isinstance(part, ast.Attribute) and isinstance(part.ctx, ast.Store)}
            self.assertFalse(methods & stored, (name, node.name))

    def test_class_methods_have_names_of_their_own(self):
        stored = {node.attr for _, node in nodes(ast.Attribute) if isinstance(node.ctx, ast.Store)}
        for _, node in nodes(ast.FunctionDef):
            for decorator in node.decorator_list:
                self.assertEqual(decorator.id, "classmethod")
                self.assertNotIn(node.name, stored)


    def test_generators_have_names_of_their_own(self):
        functions = [node for _, node in nodes(ast.FunctionDef)]
        names = [node.name for node in functions]
        for node in functions:
            if any(isinstance(part, (ast.Yield, ast.YieldFrom)) for part in ast.walk(node)):
                self.assertEqual(names.count(node.name), 1, node.name)
                self.assertNotIn(node.name, METHODS)

    def test_the_first_parameter_beside_names_is_no_word(self):
        # So that each word can be given by name.
        for _, tree in nodes(ast.ClassDef):
            for node in tree.body:
                if isinstance(node, ast.FunctionDef) and node.args.kwarg:
                    self.assertIn("_", node.args.args[0].arg, node.name)


class Statements(unittest.TestCase):
    def test_barred_syntax(self):
        barred = (ast.Global, ast.AsyncFunctionDef, ast.Await, ast.GeneratorExp, ast.Try, ast.Assert,
                  ast.NamedExpr, ast.Div, ast.Match)
        for name, node in nodes(*barred):
            self.fail(f"{name} {node}")

    def test_lambdas_of_one_line_have_other_parameters(self):
        for name, (_, tree) in TREES.items():
            places = [(node.lineno, ast.unparse(node.args)) for node in ast.walk(tree) if isinstance(node, ast.Lambda)]
            self.assertEqual(len(places), len(set(places)), name)

    def test_words_of_the_library_are_called_alone(self):
        words = [word for row in LIBRARY.values() for word in row]
        for name, (_, tree) in TREES.items():
            called = [node.func for node in ast.walk(tree) if isinstance(node, ast.Call)]
            for node in ast.walk(tree):
                if isinstance(node, ast.Name) and node.id in words:
                    self.assertTrue(any(node is func for func in called), name)
                if isinstance(node, (ast.FunctionDef, ast.arg)):
                    self.assertNotIn(getattr(node, "name", getattr(node, "arg", None)), words)

    def test_with_stands_over_own_objects_alone(self):
        self.assertEqual([(name, ast.unparse(node.items[0])) for name, node in nodes(ast.With)], [("books", "self.trial() as draft")])

    def test_values(self):
        for name, node in nodes(ast.Constant):
            self.assertNotIsInstance(node.value, (float, complex, bytes), name)

    def test_is(self):
        for name, node in nodes(ast.Compare):
            for sign, right in zip(node.ops, node.comparators):
                if isinstance(sign, (ast.Is, ast.IsNot)):
                    is_none = isinstance(right, ast.Constant) and right.value is None
                    is_type = isinstance(node.left, ast.Call) and ast.unparse(node.left.func) == "type"
                    self.assertTrue(is_none or is_type, (name, node.lineno))

    def test_sets_stand_in_sorted_or_in_a_variable(self):
        for name, (_, tree) in TREES.items():
            places = []
            for node in ast.walk(tree):
                if isinstance(node, ast.Assign) and len(node.targets) == 1 and isinstance(node.targets[0], ast.Name):
                    places.append(node.value)
                if isinstance(node, ast.Call) and isinstance(node.func, ast.Name) and node.func.id in ("sorted", "len"):
                    places.extend(node.args)
            for node in ast.walk(tree):
                is_call = isinstance(node, ast.Call) and isinstance(node.func, ast.Name) and node.func.id == "set"
                if is_call or isinstance(node, (ast.Set, ast.SetComp)):
                    self.assertTrue(any(place is node for place in places), (name, node.lineno))

    def test_errors_are_made_on_the_spot(self):
        for name, node in nodes(ast.Raise):
            self.assertIsInstance(node.exc, ast.Call, name)


CHANGING = set("append extend insert pop remove clear reverse setdefault update add discard appendleft".split())


def parts_of(expression):
    """The names, attributes and items that an expression may give, not those that it copies."""
    if isinstance(expression, ast.IfExp):
        return parts_of(expression.body) | parts_of(expression.orelse)
    if isinstance(expression, ast.BoolOp):
        return {part for value in expression.values for part in parts_of(value)}
    if isinstance(expression, ast.Call):
        name = getattr(expression.func, "id", getattr(expression.func, "attr", None))
        if name in ("enumerate", "zip", "reversed", "iter"):
            return {part for value in expression.args for part in parts_of(value)}
        if name in ("items", "keys", "values"):
            return parts_of(expression.func.value)
        return set()
    if isinstance(expression, ast.Attribute):
        return {"." + expression.attr}
    if isinstance(expression, ast.Subscript):
        return {ast.unparse(expression)} | parts_of(expression.value)
    if isinstance(expression, ast.Name):
        return {expression.id}
    return set()


def plain_assignments(function):
    """Pairs of a target and what is assigned to it, several at once taken apart."""
    for node in ast.walk(function):
        if isinstance(node, ast.Assign):
            for target in node.targets:
                if isinstance(target, ast.Tuple) and isinstance(node.value, ast.Tuple):
                    yield from zip(target.elts, node.value.elts)
                else:
                    yield target, node.value


def alias_groups(function):
    """Dict from a name to all names that may stand for the same value, in whatever order it is assigned."""
    groups = {}
    for target, value in plain_assignments(function):
        names = own_part(target) | own_part(value)
        if not isinstance(target, ast.Tuple) and len(names) > 1:
            joined = set(names)
            for name in names:
                joined |= groups.get(name, set())
            groups.update({name: joined for name in joined})
    return groups


def changed_in(body):
    found = set()
    for part in body:
        for node in ast.walk(part):
            if isinstance(node, ast.Call) and isinstance(node.func, ast.Attribute) and node.func.attr in CHANGING:
                found |= own_part(node.func.value)
            targets = node.targets if isinstance(node, (ast.Assign, ast.Delete)) else []
            targets = [node.target] if isinstance(node, ast.AugAssign) else targets
            for target in targets:
                if isinstance(target, ast.Subscript):
                    found |= own_part(target.value)
                elif isinstance(node, ast.AugAssign):
                    found |= own_part(target)
    return found


def own_part(expression):
    """What is changed itself: an item that is changed leaves the list that it stands in as it was."""
    return {ast.unparse(expression)} if isinstance(expression, ast.Subscript) else parts_of(expression)


def changed_loops(tree):
    for function in ast.walk(tree):
        if isinstance(function, ast.FunctionDef):
            groups = alias_groups(function)
            for node in ast.walk(function):
                if isinstance(node, ast.For):
                    walked = {name for part in parts_of(node.iter) for name in groups.get(part, {part})}
                    if walked & changed_in(node.body):
                        yield node.lineno


class Loops(unittest.TestCase):
    def test_what_a_loop_walks_is_not_changed_in_it(self):
        for name, (_, tree) in TREES.items():
            self.assertEqual(list(changed_loops(tree)), [], name)

    def test_the_check_finds_other_names(self):
        bad = ["for x in xs:\n  xs.append(x)", "for x in xs:\n  ys.append(x)\n xs = ys", "for x in self.a:\n  b.a.pop()",
               "for x in (a if x else b):\n  b[0] = 1", "for x in xs[0]:\n  xs[x] = 1", "for x in xs[0]:\n  xs[0].pop()", "for x, y in enumerate(d.items()):\n  del d[x]"]
        for text in bad:
            tree = ast.parse("def f():\n " + text)
            self.assertEqual(list(changed_loops(tree)), [2], text)
        good = ["for x in list(xs):\n  xs.append(x)", "for x in xs:\n  ys.append(x)", "for x in xs:\n  x.append(1)", "for x in xs[0]:\n  xs[1].append(x)"]
        for text in good:
            self.assertEqual(list(changed_loops(ast.parse("def f():\n " + text))), [], text)


class Interface(unittest.TestCase):
    def test_names_are_defined_in_their_files(self):
        for name, words in INTERFACE.items():
            for word in words.split():
                self.assertIn(word, defined(TREES[name][1]), name)

    def test_methods_are_defined_in_their_classes(self):
        bodies = {}
        for _, node in nodes(ast.ClassDef):
            methods = {part.name for part in node.body if isinstance(part, ast.FunctionDef)}
            # Two classes have one name; what is asked of it is asked of both.
            bodies[node.name] = bodies.get(node.name, methods) & methods
        for name, words in OWN_METHODS.items():
            self.assertLessEqual(set(words.split()), bodies[name], name)
        for name in EVIDENCE:
            self.assertLessEqual({"shows", "__eq__", "__init__"}, bodies[name], name)
