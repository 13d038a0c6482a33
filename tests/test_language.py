"""The rules of LANGUAGE.md that can be seen in each file by itself, or in its imports."""

import ast
import builtins
import functools
import pathlib
import re
import unittest

FOLDER = pathlib.Path(__file__).resolve().parent.parent / "sendstead"
FILES = sorted(FOLDER.rglob("*.py"))
LIBRARY = {
    "heapq": "heappush heappop heapify heapreplace heappushpop",
    "math": "gcd lcm isqrt comb perm factorial",
    "itertools": "product combinations permutations",
}
BUILTINS = set(
    "len range enumerate zip min max sum abs sorted reversed int str bool bytes list tuple dict set frozenset isinstance"
    " ord repr any all divmod iter next map super property staticmethod classmethod NotImplemented Exception ValueError"
    " TypeError KeyError IndexError LookupError ZeroDivisionError ArithmeticError OverflowError RuntimeError"
    " NotImplementedError AttributeError StopIteration object float".split()
)
METHODS = set(
    "append clear copy count endswith extend find get index insert isalnum isalpha isdigit islower isspace isupper items"
    " join keys ljust lower lstrip partition pop remove replace reverse rfind rjust rpartition rsplit rstrip setdefault"
    " split splitlines startswith strip update upper values zfill bit_length title capitalize swapcase casefold center"
    " expandtabs removeprefix removesuffix rindex isascii isdecimal isnumeric istitle isidentifier isprintable"
    " translate add discard sort encode decode hex".split()
)
# What values of Python's own have, and which names of these own methods and own attributes may have all the same.
OF_PYTHONS_VALUES = set().union(*(dir(sort) for sort in (str, int, bool, list, tuple, dict, set, frozenset, bytes)))
OWN_METHODS = set(
    "append clear copy count endswith extend find get index insert isalnum isalpha isdigit islower isspace isupper items"
    " join keys ljust lower lstrip partition pop remove replace reverse rfind rjust rpartition rsplit rstrip setdefault"
    " split splitlines startswith strip update upper values zfill bit_length add discard".split()
)
OWN_ATTRIBUTES = set("count index title find get join lower upper split strip copy add".split())
SPECIAL = set(
    "init eq repr str len enter exit call iter lt le gt ge ne add sub mul floordiv mod pow and or xor lshift rshift neg"
    " pos invert abs bool contains getitem setitem".split()
)
# What DOC.md's interface lists so far, with the names of the arguments.
INTERFACE = {
    "errors": (
        "SteadError Fault(page,row,column,why) NoKind NoMethod NoField NoWord Ring Clash Many Used Busy Idle Count Full"
        " NoFrame NoName Worn NoDeed NoImage Undone(at)"
    ),
    "signs": "words_of(text)",
    "pages": (
        "Page(name,text) Page.place(k) Page.method_place(k,m) Page.node_places(k,m) Page.__str__() Page.__eq__(other)"
    ),
    "trees": (
        "nodes_of(method) codes_of(method) names_of(method) parameters_of(method,node) body_of(method,node)"
        " code_within(method,node)"
    ),
    "writing": "written(trees)",
    "leadings": "leads(before,behind,thing)",
    "books": (
        "Book Book.load(name,text) Book.gone(kind,message) Book.field(kind,word,worth) Book.lost(kind,word)"
        " Book.under(kind,parent) Book.kinds() Book.parent(kind) Book.own(kind) Book.fields(kind) Book.line(kind)"
        " Book.messages(kind) Book.finds(kind,message) Book.version_of(v) Book.pages() Book.stamp() Book.copy()"
        " Book.shown() Book.__len__() Book.__eq__(other)"
    ),
    "rows": "rows_of(method,node) rows_stand(method,node,thing)",
    "sweeps": "sweep_stands(thing)",
    "places": "all_rows(method) place_stands(book,thing) stops_stand(book,view,thing)",
    "steads": (
        "Stead(*,quick=False,room=ROOM,deep=DEEP) Stead.begin(kind,message,worths=()) Stead.run(beats,*,marks=())"
        " Stead.again(k) Stead.named(k,word,worth) Stead.forget() Stead.load(name,text) Stead.gone(kind,message)"
        " Stead.field(kind,word,worth) Stead.lost(kind,word) Stead.under(kind,parent) Stead.sweep() Stead.view()"
        " Stead.where(k) Stead.fault_place() Stead.looked() Stead.places() Stead.stops() Stead.cells() Stead.image()"
        " Stead.twin() Stead.__len__() Stead.__eq__(other)"
    ),
    "images": "read_image(thing,*,quick=False)",
    "desks": "deed_text(deed) read_deeds(text) do(stead,deed) Desk(stead) Desk.do(text)",
}
NOWHERE = set("register mro elements open input law version_info with_traceback add_note".split())
NO_WORDS = re.compile(
    r"\b(typing|typing_extensions|enum|Enum|IntEnum|StrEnum|Flag|IntFlag|Generic|Protocol|ABC|ABCMeta|namedtuple"
    r"|NamedTuple|TypedDict|TYPE_CHECKING|abstractmethod)\b|dataclass|overload|contextmanager"
)
BARRED = (
    ast.Global, ast.AsyncFunctionDef, ast.AsyncFor, ast.AsyncWith, ast.Await, ast.Div, ast.MatMult, ast.TryStar,
    ast.Import,
)


def tree_of(file):
    return ast.parse(file.read_text(encoding="utf-8"))


def nodes_of(file, *sorts):
    return [node for node in ast.walk(tree_of(file)) if isinstance(node, sorts)]


def bound_names(file):
    """The names of functions, classes, parameters and variables of a file."""
    names = [node.name for node in nodes_of(file, ast.FunctionDef, ast.ClassDef)]
    names += [node.arg for node in nodes_of(file, ast.arg)]
    return names + [node.id for node in nodes_of(file, ast.Name) if isinstance(node.ctx, ast.Store)]


def with_arguments(name, function, first):
    """A function's name with those of its arguments from the first on that a caller passes, and their defaults."""
    copied = ast.parse(ast.unparse(function)).body[0].args
    copied.args = copied.args[first:]
    return "%s(%s)" % (name, ast.unparse(copied).replace(" ", ""))


def defined_in(file):
    """The functions, classes and methods that a file defines, as INTERFACE tells them."""
    told = []
    for node in tree_of(file).body:
        if isinstance(node, ast.FunctionDef):
            told.append(with_arguments(node.name, node, 0))
        elif isinstance(node, ast.ClassDef):
            told.append(node.name)
            for part in node.body:
                if isinstance(part, ast.FunctionDef):
                    name = node.name if part.name == "__init__" else node.name + "." + part.name
                    told.append(with_arguments(name, part, 1))
    return told


def may_stand_behind_star(node):
    """Whether a node is a name, an attribute off a name, a literal, or a list, tuple or dict of these."""
    if isinstance(node, ast.Starred):
        return may_stand_behind_star(node.value)
    if isinstance(node, (ast.List, ast.Tuple)):
        return all(may_stand_behind_star(part) for part in node.elts)
    if isinstance(node, ast.Dict):
        return all(part is not None and may_stand_behind_star(part) for part in node.keys + node.values)
    if isinstance(node, ast.Attribute):
        return isinstance(node.value, ast.Name)
    return isinstance(node, (ast.Name, ast.Constant))


def in_each_file(check):
    """A test that does the check for each file of the package."""
    @functools.wraps(check)
    def test(self):
        for file in FILES:
            with self.subTest(file=file.name):
                check(self, file)
    return test


class LanguageTest(unittest.TestCase):
    def test_l1_l14_files(self):
        self.assertTrue((FOLDER / "__init__.py").exists())
        for file in FOLDER.rglob("*"):
            if file.name != "__pycache__" and file.parent.name != "__pycache__":
                self.assertRegex(file.name, r"^(__init__|__main__|[a-z][a-z0-9_]*)\.py$")
                self.assertNotRegex(file.name, r"^(law_|test)|^(tests?|testing|site|conftest)\.py$")
                self.assertNotIn(file.stem, dir(builtins))

    @in_each_file
    def test_l10_l14_signs_and_sizes(self, file):
        text = file.read_text(encoding="utf-8")
        self.assertRegex(text, r"\A[ -~\n]*\Z")
        self.assertLessEqual(len(text.splitlines()), 399)
        self.assertLessEqual(max(map(len, text.splitlines()), default=0), 120)
        for node in nodes_of(file, ast.FunctionDef):
            self.assertLessEqual(node.end_lineno - node.lineno + 1, 40, node.name)

    @in_each_file
    def test_l2_l16_imports(self, file):
        known = {file.stem for file in FILES}
        for node in nodes_of(file, ast.ImportFrom):
            self.assertEqual(node.level, 0)
            names = {alias.name for alias in node.names}
            if node.module in LIBRARY:
                self.assertLessEqual(names, set(LIBRARY[node.module].split()))
            elif node.module != "__future__":
                package, _, module = node.module.partition(".")
                self.assertEqual(package, "sendstead")
                self.assertIn(module, known)
                body = tree_of(FOLDER / (module + ".py")).body
                defined = {part.name for part in body if isinstance(part, (ast.FunctionDef, ast.ClassDef))}
                defined |= {part.targets[0].id for part in body if isinstance(part, ast.Assign)}
                self.assertLessEqual(names, defined)

    def test_l16_no_rings_of_imports(self):
        imports = {
            file.stem: {node.module.split(".")[-1] for node in nodes_of(file, ast.ImportFrom)} for file in FILES
        }
        for start in imports:
            seen, todo = set(), list(imports[start])
            while todo:
                name = todo.pop()
                if name not in seen:
                    seen.add(name)
                    todo += imports.get(name, ())
            self.assertNotIn(start, seen)

    def test_l16_interface_stands_where_it_is_listed(self):
        for module, listed in INTERFACE.items():
            self.assertLessEqual(set(listed.split()), set(defined_in(FOLDER / (module + ".py"))))

    @in_each_file
    def test_l3_module_level(self, file):
        for at, node in enumerate(tree_of(file).body):
            if isinstance(node, ast.Assign):
                self.assertEqual([type(target) for target in node.targets], [ast.Name])
            elif isinstance(node, ast.Expr):
                self.assertEqual(at, 0)
                self.assertIsInstance(node.value.value, str)
            else:
                self.assertIsInstance(node, (ast.ImportFrom, ast.FunctionDef, ast.ClassDef))

    @in_each_file
    def test_l4_l5_functions_and_classes(self, file):
        for node in nodes_of(file, ast.FunctionDef, ast.ClassDef):
            for decorator in node.decorator_list:
                self.assertRegex(ast.unparse(decorator), r"^(property|staticmethod|classmethod|\w+\.setter)$")
            if node.name.startswith("__"):
                self.assertIn(node.name.strip("_"), SPECIAL)
            if isinstance(node, ast.ClassDef):
                names = [part.name for part in node.body if isinstance(part, ast.FunctionDef)]
                self.assertEqual(len(names), len(set(names)), node.name)

    def test_l18_no_name_is_a_method_and_an_attribute(self):
        for file in FILES:
            for node in nodes_of(file, ast.ClassDef):
                methods = {part.name for part in node.body if isinstance(part, ast.FunctionDef)}
                stored = {part.attr for part in ast.walk(node)
                          if isinstance(part, ast.Attribute) and isinstance(part.ctx, ast.Store)}
                self.assertFalse(methods & stored, node.name)

    @in_each_file
    def test_l18_attributes_are_assigned_through_local_names(self, file):
        for node in nodes_of(file, ast.Attribute):
            if isinstance(node.ctx, ast.Store):
                self.assertIsInstance(node.value, ast.Name, ast.unparse(node))

    def test_methods_of_one_name_take_the_same(self):
        """So that each call passes what any method of that name takes."""
        told = {}
        for file in FILES:
            for node in nodes_of(file, ast.ClassDef):
                for part in node.body:
                    if isinstance(part, ast.FunctionDef) and not part.name.startswith("__"):
                        taken = len(part.args.args) + len(part.args.kwonlyargs)
                        self.assertEqual(told.setdefault(part.name, taken), taken, (node.name, part.name))

    @in_each_file
    def test_l6_l7_statements_and_expressions(self, file):
        self.assertEqual(nodes_of(file, *BARRED), [])
        for node in nodes_of(file, ast.Constant):
            self.assertNotIsInstance(node.value, (float, complex))
        for node in nodes_of(file, ast.ExceptHandler):
            self.assertIsNotNone(node.type)

    @in_each_file
    def test_l7_calls_with_stars(self, file):
        for node in nodes_of(file, ast.Call):
            starred = [isinstance(part, ast.Starred) for part in node.args]
            # What stands behind a star's own part is looked at, too.
            parts = node.args[starred.index(True):] if True in starred else []
            doubled = [part.value for part in node.keywords if part.arg is None]
            if doubled:
                self.assertEqual(len(node.keywords), 1, ast.unparse(node))
                self.assertNotIsInstance(doubled[0], (ast.Constant, ast.Dict))
                parts = node.args
            for part in parts + doubled:
                self.assertTrue(may_stand_behind_star(part), ast.unparse(node))

    @in_each_file
    def test_l8_builtins(self, file):
        used = {node.id for node in nodes_of(file, ast.Name)} & set(dir(builtins))
        self.assertLessEqual(used - {"__name__"}, BUILTINS)

    @in_each_file
    def test_l12_l15_l17_names(self, file):
        names = bound_names(file)
        methods = [part.name for node in nodes_of(file, ast.ClassDef) for part in node.body
                   if isinstance(part, ast.FunctionDef)]
        imports = [alias.asname or alias.name for node in nodes_of(file, ast.ImportFrom) for alias in node.names]
        top = [node.name for node in tree_of(file).body if isinstance(node, (ast.FunctionDef, ast.ClassDef))]
        top += imports
        self.assertEqual(len(top), len(set(top)))
        self.assertFalse(set(imports) & set(names))
        for name in names:
            self.assertRegex(name, r"^(__\w+__|_?[A-Za-z][A-Za-z0-9_]*|_)$")
            self.assertNotIn(name, NOWHERE)
            self.assertTrue(name in methods or name not in dir(builtins), name)
        for node in nodes_of(file, ast.Attribute):
            self.assertNotIn(node.attr, NOWHERE)

    @in_each_file
    def test_l17_words(self, file):
        text = "\n".join(ast.unparse(node) for node in tree_of(file).body)
        self.assertIsNone(NO_WORDS.search(text))

    @in_each_file
    def test_l20_is(self, file):
        for node in nodes_of(file, ast.Compare):
            for sign, side in zip(node.ops, node.comparators):
                if isinstance(sign, (ast.Is, ast.IsNot)):
                    self.assertIn(ast.unparse(side), ("None", "True", "False", "self"))

    @in_each_file
    def test_l25_methods(self, file):
        own = {node.name for file in FILES for node in nodes_of(file, ast.FunctionDef)}
        stored = {node.attr for file in FILES for node in nodes_of(file, ast.Attribute) if isinstance(node.ctx, ast.Store)}
        for node in nodes_of(file, ast.Call):
            if isinstance(node.func, ast.Attribute):
                self.assertIn(node.func.attr, METHODS | own | stored | {"__init__"})

    @in_each_file
    def test_l26_own_methods_and_attributes(self, file):
        for node in nodes_of(file, ast.ClassDef):
            for part in node.body:
                if isinstance(part, ast.FunctionDef) and part.name not in OWN_METHODS:
                    self.assertTrue(part.name.startswith("__") or part.name not in OF_PYTHONS_VALUES, part.name)
        for node in nodes_of(file, ast.Attribute):
            if isinstance(node.ctx, ast.Store) and node.attr not in OWN_ATTRIBUTES:
                self.assertNotIn(node.attr, OF_PYTHONS_VALUES)

    @in_each_file
    def test_l27_strings(self, file):
        self.assertNotRegex(file.read_text(encoding="utf-8"), r"\\(?![n\\t\"'x])")
        for node in nodes_of(file, ast.Constant):
            if isinstance(node.value, str):
                self.assertNotIn("%", node.value)
                self.assertFalse(node.value.endswith(("._", ".__")))

    @in_each_file
    def test_l28_ends_of_str(self, file):
        for node in nodes_of(file, ast.FunctionDef):
            if node.name in ("__str__", "__repr__", "__len__"):
                self.assertIsInstance(node.body[-1], ast.Return)
                self.assertIsInstance(node.body[-1].value, (ast.Call, ast.Constant, ast.JoinedStr))


if __name__ == "__main__":
    unittest.main()
