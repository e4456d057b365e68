"""Rules of LANGUAGE.md that can be seen from the code, over all files of the package."""

import ast
import builtins
import io
import pathlib
import tokenize
import unittest

FOLDER = pathlib.Path(__file__).resolve().parent.parent / "fewplaymany"
FILES = sorted(FOLDER.rglob("*.py"))
TREES = {path: ast.parse(path.read_text()) for path in FILES}

FUNCTIONS = (
    "len range enumerate zip min max sum abs sorted reversed int str bool list tuple dict set isinstance ord repr any all "
    "divmod ValueError"
).split()
METHODS = (
    "append clear copy count endswith extend find get index insert isalnum isalpha isdigit islower isspace isupper items join "
    "keys ljust lower lstrip partition pop remove replace reverse rfind rjust rpartition rsplit rstrip setdefault split "
    "splitlines startswith strip update upper values zfill bit_length add discard isascii"
).split()
DOUBLE = "__init__ __eq__ __len__ __enter__ __exit__ __contains__".split()
BARRED_ATTRIBUTES = (
    "items keys values pop update append clear extend insert remove reverse setdefault sort args encode decode hex fromhex "
    "format format_map mro"
).split()
BARRED_WORDS = (
    "type typing typing_extensions enum Enum IntEnum StrEnum Flag IntFlag Generic Protocol ABC ABCMeta namedtuple NamedTuple "
    "TypedDict TYPE_CHECKING abstractmethod dataclass overload contextmanager register mro elements open input law "
    "version_info with_traceback add_note attrgetter breakpoint builtins compile copyright credits delattr dir eval exec exit "
    "gc getattr globals hasattr help id importlib license locals methodcaller os quit setattr super vars sys global async "
    "await lambda chr float"
).split()
# What is iterated on the spot, and what may stand around it.
LAZY = "range zip enumerate reversed map iter".split()
VIEWS = "items keys values".split()
TAKERS = "list tuple dict sorted sum any all enumerate zip min max".split()
RANGE_TAKERS = [*TAKERS, "len", "reversed"]
NODES = (ast.GeneratorExp, ast.Lambda, ast.Set, ast.AsyncFor, ast.AsyncWith, ast.Await, ast.Global, ast.Div, ast.AnnAssign)


def nodes(kind):
    """All nodes of this kind in all files, each with its place."""
    return [(f"{path.name}:{node.lineno}", node) for path in FILES for node in ast.walk(TREES[path]) if isinstance(node, kind)]


def assigned_attributes():
    """The names of all attributes that some class assigns to its own objects."""
    return {node.attr for _, node in nodes(ast.Attribute) if isinstance(node.ctx, ast.Store)}


def own_methods():
    """The names of all methods."""
    return {inner.name for _, node in nodes(ast.ClassDef) for inner in node.body if isinstance(inner, ast.FunctionDef)}


def functions_called():
    """All nodes that are called."""
    return {id(node.func) for _, node in nodes(ast.Call)}


def around(node):
    """For each node in this one, the one that it stands in."""
    return {inner: outer for outer in ast.walk(node) for inner in ast.iter_child_nodes(outer)}


def is_lazy(node):
    """Whether a node makes what has to be iterated on the spot."""
    if not isinstance(node, ast.Call):
        return False
    if isinstance(node.func, ast.Name):
        return node.func.id in LAZY
    return isinstance(node.func, ast.Attribute) and node.func.attr in VIEWS


def is_taken(node, outer, takers):
    """Whether a node is iterated on the spot by what it stands in."""
    if isinstance(outer, (ast.For, ast.comprehension)):
        return outer.iter is node
    if not isinstance(outer, ast.Call) or not isinstance(outer.func, ast.Name):
        return False
    return outer.func.id in takers and outer.args[0] is node


def is_taken_range(node, outer):
    """Whether a node, a range, is used by what it stands in as a kept one may be."""
    if isinstance(outer, ast.Compare):
        return outer.comparators == [node] and isinstance(outer.ops[0], (ast.In, ast.NotIn))
    if isinstance(outer, ast.Subscript):
        return outer.value is node and not isinstance(outer.slice, ast.Slice)
    return is_taken(node, outer, RANGE_TAKERS)


def is_range(node):
    """Whether a node is a call of range."""
    return is_lazy(node) and isinstance(node.func, ast.Name) and node.func.id == "range"


def lazy_faults(tree):
    """The lines of a tree at which something lazy is handed on, or kept; a range may be kept in a variable."""
    outers = around(tree)
    found = []
    for node in [node for node in ast.walk(tree) if is_lazy(node)]:
        outer = outers[node]
        if is_range(node) and isinstance(outer, ast.Assign):
            if not is_kept_range(outer, outers):
                found.append(node.lineno)
        elif not (is_taken_range(node, outer) if is_range(node) else is_taken(node, outer, TAKERS)):
            found.append(node.lineno)
    return found


def is_kept_range(node, outers):
    """Whether an assignment of a range is to a variable, assigned once, that is only used as a range may be."""
    if len(node.targets) != 1 or not isinstance(node.targets[0], ast.Name):
        return False
    function = outers[node]
    while not isinstance(function, (ast.FunctionDef, ast.Module)):
        function = outers[function]
    uses = [inner for inner in ast.walk(function) if isinstance(inner, ast.Name) and inner.id == node.targets[0].id]
    return isinstance(function, ast.FunctionDef) and all(
        inner is node.targets[0] or (isinstance(inner.ctx, ast.Load) and is_taken_range(inner, outers[inner])) for inner in uses)


def is_plain_test(node):
    """Whether a test only asks names and attributes whether they are None."""
    if isinstance(node, ast.BoolOp):
        return all(is_plain_test(inner) for inner in node.values)
    if isinstance(node, ast.UnaryOp):
        return isinstance(node.op, ast.Not) and is_plain_test(node.operand)
    if not isinstance(node, ast.Compare) or not isinstance(node.left, (ast.Name, ast.Attribute)) or len(node.ops) != 1:
        return False
    other = node.comparators[0]
    return isinstance(node.ops[0], (ast.Is, ast.IsNot)) and isinstance(other, ast.Constant) and other.value is None


def exit_faults(rows):
    """The lines of rows of __exit__ that are neither plain tests nor assignments of names and attributes."""
    found = []
    for row in rows:
        if isinstance(row, ast.If):
            found += [] if is_plain_test(row.test) else [row.lineno]
            found += exit_faults([*row.body, *row.orelse])
        elif not isinstance(row, ast.Assign) or not isinstance(row.value, (ast.Name, ast.Attribute)):
            found.append(row.lineno)
    return found


class Language(unittest.TestCase):
    def none(self, found):
        self.assertEqual(list(found), [])

    def test_files(self):
        self.assertTrue(FILES)
        others = [path for path in FOLDER.rglob("*") if path.suffix != ".py" and "__pycache__" not in str(path)]
        self.none(others)
        for path in FILES:
            self.assertRegex(path.name, r"^[a-z][a-z0-9_]*\.py$|^__init__\.py$|^__main__\.py$")
            text = path.read_text()
            self.assertLessEqual(len(text.split("\n")), 399, path)
            self.none(line for line in text.split("\n") if len(line) > 120)
            self.none(sign for sign in text if not (sign == "\n" or " " <= sign <= "~"))

    def test_functions_are_short(self):
        self.none(place for place, node in nodes(ast.FunctionDef) if node.end_lineno - node.lineno >= 40)

    def test_module_level(self):
        allowed = (ast.ImportFrom, ast.FunctionDef, ast.ClassDef, ast.Assign)
        for path in FILES:
            body = TREES[path].body
            self.assertIsInstance(ast.get_docstring(TREES[path]), str, path)
            self.none(f"{path.name}:{node.lineno}" for node in body[1:] if not isinstance(node, allowed))
            names = [node.name for node in body[1:] if isinstance(node, (ast.FunctionDef, ast.ClassDef))]
            names += [node.targets[0].id for node in body[1:] if isinstance(node, ast.Assign)]
            names += [alias.name for node in body[1:] if isinstance(node, ast.ImportFrom) for alias in node.names]
            self.assertEqual(len(names), len(set(names)), path)

    def test_imports(self):
        self.none(place for place, _ in nodes(ast.Import))
        known = set()
        left = {path: [node for node in TREES[path].body if isinstance(node, ast.ImportFrom)] for path in FILES}
        for path in FILES:
            # From the library only what counts may be imported.
            self.none(node.module for node in left[path] if node.module == "math" and node.names[0].name != "comb")
            left[path] = [node for node in left[path] if node.module != "math"]
            for node in left[path]:
                self.assertTrue(node.module.startswith("fewplaymany.") and node.level == 0, path)
                source = TREES[FOLDER / (node.module.split(".")[1] + ".py")]
                here = [inner.name for inner in source.body if isinstance(inner, (ast.FunctionDef, ast.ClassDef))]
                here += [inner.targets[0].id for inner in source.body if isinstance(inner, ast.Assign)]
                self.none(alias.name for alias in node.names if alias.name not in here or alias.asname)
        while left:
            ready = [path for path in left if all(node.module in known for node in left[path])]
            self.assertTrue(ready, "files import from each other")
            for path in ready:
                known.add("fewplaymany." + path.stem)
                del left[path]

    def test_what_is_not_used(self):
        self.none(place for place, _ in nodes(NODES))
        self.none(place for place, node in nodes((ast.FunctionDef, ast.ClassDef)) if node.decorator_list)
        self.none(place for place, node in nodes(ast.ExceptHandler) if node.type is None)

    def test_what_a_loop_goes_over_is_not_changed_in_it(self):
        changing = ("append", "extend", "insert", "pop", "remove", "clear", "reverse", "setdefault", "update")
        for place, node in nodes(ast.For):
            gone_over = {ast.unparse(inner) for inner in ast.walk(node.iter) if isinstance(inner, (ast.Name, ast.Attribute))}
            for inner in [part for line in node.body for part in ast.walk(line)]:
                if isinstance(inner, ast.Call) and isinstance(inner.func, ast.Attribute) and inner.func.attr in changing:
                    self.assertNotIn(ast.unparse(inner.func.value), gone_over, place)
                if isinstance(inner, ast.Subscript) and not isinstance(inner.ctx, ast.Load):
                    self.assertNotIn(ast.unparse(inner.value), gone_over, place)

    def test_what_is_iterated_on_the_spot(self):
        self.none((path.name, line) for path in FILES for line in lazy_faults(TREES[path]))

    def test_what_is_not_iterated_on_the_spot_is_seen(self):
        wrong = ("f(range(n))", "f(a, *range(n))", "f(by=zip(a, b))", "[d.items()]", "return enumerate(a)", "a.x = range(n)",
                 "a = zip(b, c)", "a = range(n)\n f(a)", "a = range(n)\n a = b", "a = range(n)\n return a", "max(n, range(n))",
                 "a = range(n) if n else b", "a.extend(d.values())", "len(d.keys())", "list(reversed(zip(a, b)))",
                 "f(map(str, a))")
        right = ("list(range(n))", "sorted(d.items())", "for a in enumerate(b): pass", "[a for a in zip(b, c)]", "len(range(n))",
                 "a = range(n)\n f(list(a))", "a = range(n)\n [b for b in a if b in a]", "a = range(n)\n f(a[0])",
                 "n in range(n)")
        for text in wrong:
            self.assertEqual(len(lazy_faults(ast.parse(f"def g(n):\n {text}"))), 1, text)
        for text in right:
            self.none(lazy_faults(ast.parse(f"def g(n):\n {text}")))

    def test_rows_of_exit(self):
        exits = [(place, node) for place, node in nodes(ast.FunctionDef) if node.name == "__exit__"]
        self.assertTrue(exits)
        self.none((place, exit_faults(node.body)) for place, node in exits if exit_faults(node.body))

    def test_other_rows_of_exit_are_seen(self):
        wrong = ("if self.kept: a = b", "if not self.kept: a = b", "if kind is not None or not self.kept: a = b",
                 "if a == 1: a = b", "if a is True: a = b", "if a is None:\n self.f()", "f(a)", "a = f(b)", "a = not b")
        right = ("if kind is not None or a.b is None: a = b", "if not (a is None and b is not None): a.b = c.d", "a.b = c")
        for text in wrong:
            self.assertEqual(len(exit_faults(ast.parse(text).body)), 1, text)
        for text in right:
            self.none(exit_faults(ast.parse(text).body))

    def test_stars_in_calls(self):
        for place, node in nodes(ast.Call):
            for inner in [inner.value for inner in node.args if isinstance(inner, ast.Starred)]:
                self.assertIsInstance(inner, (ast.Name, ast.Attribute), place)
                self.assertTrue(isinstance(inner, ast.Name) or isinstance(inner.value, ast.Name), place)

    def test_double_underscores(self):
        self.none(place for place, node in nodes(ast.FunctionDef) if node.name.startswith("__") and node.name not in DOUBLE)

    def test_builtins(self):
        # Examples that were run before leave the name _ among the builtins.
        names = [(place, node.id) for place, node in nodes(ast.Name) if node.id != "_"]
        self.none(name for name in names if hasattr(builtins, name[1]) and name[1] not in FUNCTIONS)
        taken = [(place, node.id) for place, node in nodes(ast.Name) if not isinstance(node.ctx, ast.Load) and node.id != "_"]
        taken += [(place, node.arg) for place, node in nodes(ast.arg)]
        taken += [(f"{path.name}:{node.lineno}", node.name) for path in FILES for node in TREES[path].body
                  if isinstance(node, (ast.FunctionDef, ast.ClassDef))]
        self.none(name for name in taken if hasattr(builtins, name[1]))

    def test_no_name_of_an_import_or_a_class_is_taken_anew(self):
        for path in FILES:
            body = TREES[path].body
            taken = {node.name for node in body if isinstance(node, (ast.FunctionDef, ast.ClassDef))}
            taken |= {alias.name for node in body if isinstance(node, ast.ImportFrom) for alias in node.names}
            stored = [node.id for node in ast.walk(TREES[path]) if isinstance(node, ast.Name) and isinstance(node.ctx, ast.Store)]
            stored += [node.arg for node in ast.walk(TREES[path]) if isinstance(node, ast.arg)]
            self.none((path.name, name) for name in stored if name in taken)

    def test_attributes(self):
        assigned, methods, called = assigned_attributes(), own_methods(), functions_called()
        self.none(name for name in assigned if name in BARRED_ATTRIBUTES)
        self.none(assigned & methods)
        for place, node in nodes(ast.Attribute):
            if id(node) in called:
                self.assertTrue(node.attr in methods or node.attr in METHODS, (place, node.attr))
            else:
                self.assertIn(node.attr, assigned, place)

    def test_is(self):
        for place, node in nodes(ast.Compare):
            for sign, other in zip(node.ops, node.comparators):
                if isinstance(sign, (ast.Is, ast.IsNot)):
                    self.assertTrue(isinstance(other, ast.Constant) and other.value in (None, True, False), place)

    def test_sets(self):
        for place, node in nodes(ast.Call):
            for inner in node.args:
                if isinstance(inner, ast.Call) and isinstance(inner.func, ast.Name) and inner.func.id == "set":
                    self.assertTrue(isinstance(node.func, ast.Name) and node.func.id in ("sorted", "len"), place)
                    self.none(node.keywords)

    def test_lists_and_dicts_at_module_level_are_only_read(self):
        tables = {(path, node.targets[0].id) for path in FILES for node in TREES[path].body
                  if isinstance(node, ast.Assign) and isinstance(node.value, (ast.Dict, ast.List))}
        for path in FILES:
            read = set()
            for node in ast.walk(TREES[path]):
                if isinstance(node, (ast.Subscript, ast.Attribute)):
                    read.add(id(node.value))
                if isinstance(node, ast.Compare):
                    read |= {id(inner) for inner in node.comparators}
            self.none(f"{path.name}:{node.lineno}" for node in ast.walk(TREES[path]) if isinstance(node, ast.Name)
                      and isinstance(node.ctx, ast.Load) and (path, node.id) in tables and id(node) not in read)

    def test_words_and_strings(self):
        for path in FILES:
            docs = {node.body[0].lineno for node in ast.walk(TREES[path])
                    if isinstance(node, (ast.Module, ast.ClassDef, ast.FunctionDef)) and ast.get_docstring(node)}
            for token in tokenize.generate_tokens(io.StringIO(path.read_text()).readline):
                if token.type == tokenize.NAME:
                    self.assertNotIn(token.string, BARRED_WORDS, path)
                if token.type == tokenize.STRING and token.start[0] not in docs:
                    self.assertNotIn(token.string.strip("f\"'"), BARRED_WORDS, path)
                    self.assertNotIn("%", token.string, path)


if __name__ == "__main__":
    unittest.main()
