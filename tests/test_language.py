"""The rules of the language that a look at the files can tell."""

import ast
import pathlib
import re
import unittest

PACKAGE = pathlib.Path(__file__).resolve().parent.parent / "pagelives"
BUILTINS = set("""
len range enumerate zip min max sum abs sorted reversed int str bool bytes list tuple dict set isinstance ord repr
any all divmod pow iter next Exception ValueError TypeError KeyError IndexError LookupError ZeroDivisionError
ArithmeticError OverflowError RuntimeError NotImplementedError StopIteration NotImplemented super property
staticmethod classmethod
""".split())
OTHER_BUILTINS = set(dir(__builtins__) if not isinstance(__builtins__, dict) else __builtins__) - BUILTINS
BARRED_WORDS = set("""
type typing typing_extensions enum Enum IntEnum StrEnum Flag IntFlag Generic Protocol ABC ABCMeta namedtuple
NamedTuple TypedDict TYPE_CHECKING abstractmethod dataclass overload contextmanager
""".split())
BARRED_NAMES = set("register mro elements open input law version_info with_traceback add_note".split())
METHODS = set("""
__init__ __eq__ __repr__ __str__ __len__ __enter__ __exit__ __call__ __iter__ __lt__ __le__ __gt__ __ge__ __ne__
__add__ __sub__ __and__ __or__ __contains__ __getitem__ __setitem__ __bool__ __iadd__
""".split())
BARRED_KINDS = (
    ast.Global, ast.AsyncFunctionDef, ast.Await, ast.AsyncFor, ast.AsyncWith, ast.Div, ast.AnnAssign, ast.Import,
    ast.Set, ast.GeneratorExp,
)


def trees():
    """The pairs of the files of the package and their trees."""
    return [(path, ast.parse(path.read_text())) for path in sorted(PACKAGE.glob("*.py"))]


def nodes(kind):
    """All nodes of this kind, with the file."""
    return [(path.name, node) for path, tree in trees() for node in ast.walk(tree) if isinstance(node, kind)]


class Files(unittest.TestCase):
    def test_one_folder_of_plain_files(self):
        found = [path.name for path in PACKAGE.iterdir() if path.name != "__pycache__"]
        for name in found:
            self.assertRegex(name, r"^([a-z][a-z0-9_]*|__init__)\.py$")
        self.assertIn("__init__.py", found)

    def test_sizes_and_characters(self):
        for path in PACKAGE.glob("*.py"):
            text = path.read_text()
            self.assertRegex(text, r"^[ -~\n]*$")
            self.assertLessEqual(len(text.split("\n")), 399, path)
            self.assertLessEqual(max([len(line) for line in text.split("\n")]), 120, path)

    def test_functions_are_small(self):
        for name, node in nodes(ast.FunctionDef):
            self.assertLessEqual(node.end_lineno - node.lineno + 1, 40, (name, node.name))

    def test_barred_words(self):
        for path, tree in trees():
            kept = ast.unparse(tree)
            for node in ast.walk(tree):
                if isinstance(node, (ast.Module, ast.ClassDef, ast.FunctionDef)):
                    kept = kept.replace(ast.get_docstring(node, clean=False) or "\0", "")
            self.assertEqual(BARRED_WORDS & set(re.findall(r"\w+", kept)), set(), path)


class Imports(unittest.TestCase):
    def test_from_the_defining_file(self):
        defined = {path.stem: bound_names(tree) for path, tree in trees()}
        for name, node in nodes(ast.ImportFrom):
            self.assertEqual(node.level, 0, name)
            package, _, module = node.module.partition(".")
            self.assertEqual(package, "pagelives", name)
            for alias in node.names:
                self.assertIn(alias.name, defined[module], name)
                self.assertIsNone(alias.asname, name)

    def test_no_circles(self):
        left = {path.stem: imported_files(tree) for path, tree in trees()}
        while left:
            done = [name for name in left if not left[name] & set(left)]
            self.assertTrue(done, left)
            left = {name: left[name] for name in left if name not in done}

    def test_interface(self):
        defined = {path.stem: bound_names(tree) for path, tree in trees()}
        for module, names in INTERFACE.items():
            self.assertLessEqual(set(names.split()), set(defined[module]), module)


class Code(unittest.TestCase):
    def test_kinds_of_nodes(self):
        self.assertEqual(nodes(BARRED_KINDS), [])
        for name, node in nodes(ast.Constant):
            self.assertNotIsInstance(node.value, (float, complex), name)
            if isinstance(node.value, str):
                self.assertNotIn("%", node.value, name)

    def test_module_level(self):
        for path, tree in trees():
            for node in tree.body:
                self.assertIsInstance(node, (ast.Expr, ast.ImportFrom, ast.FunctionDef, ast.ClassDef, ast.Assign))
                if isinstance(node, ast.Assign):
                    self.assertTrue(is_plain(node.value, functions_above(tree, node)), path)
            names = bound_names(tree) + [a.name for n in tree.body if isinstance(n, ast.ImportFrom) for a in n.names]
            self.assertEqual(len(names), len(set(names)), path)

    def test_names(self):
        for path, tree in trees():
            imported = {a.name for n in tree.body if isinstance(n, ast.ImportFrom) for a in n.names}
            top = imported | {n.name for n in tree.body if isinstance(n, ast.ClassDef)}
            for name in bound_inside(tree):
                self.assertNotIn(name, top | BUILTINS | OTHER_BUILTINS | BARRED_NAMES, path)
            for node in ast.walk(tree):
                if isinstance(node, ast.Name):
                    self.assertNotIn(node.id, OTHER_BUILTINS, path)
                if isinstance(node, ast.Attribute):
                    self.assertNotIn(node.attr, BARRED_NAMES, path)

    def test_methods_and_decorators(self):
        for name, node in nodes(ast.FunctionDef):
            if node.name.startswith("__"):
                self.assertIn(node.name, METHODS, name)
            for decorator in node.decorator_list:
                self.assertIn(ast.unparse(decorator),
                              ("property", "staticmethod", "classmethod", f"{node.name}.setter"), name)

    def test_interface_methods_stand_in_their_classes(self):
        defined = {(path.stem, node.name): {part.name for part in node.body if isinstance(part, ast.FunctionDef)}
                   for path, tree in trees() for node in tree.body if isinstance(node, ast.ClassDef)}
        for place, names in CLASSES.items():
            self.assertLessEqual(set(names.split()), defined[place])

    def test_what_finally_and_exit_hold(self):
        # They hold assignments of names and attributes alone.
        ends = [part for _, node in nodes(ast.Try) for part in node.finalbody]
        ends = ends + [part for _, node in nodes(ast.FunctionDef) if node.name == "__exit__" for part in node.body]
        self.assertTrue(ends)
        for part in ends:
            self.assertIsInstance(part, ast.Assign)
            self.assertIsInstance(part.value, (ast.Name, ast.Attribute))

    def test_sorted_takes_sets_alone(self):
        # Beside a class with an order, this is what may be sorted without a look at its kind.
        for name, node in nodes(ast.Call):
            if ast.unparse(node.func) == "sorted":
                self.assertEqual(ast.unparse(node.args[0]).partition("(")[0], "set", name)


def functions_above(tree, node):
    """The names of the functions that a file defines above a statement of it."""
    return [other.name for other in tree.body if isinstance(other, ast.FunctionDef) and other.lineno < node.lineno]


def is_plain(value, functions):
    """Whether a value at module level is plain, functions defined above it perhaps among its items."""
    if isinstance(value, ast.Dict):
        return all(is_plain(part, functions) for part in value.keys + value.values)
    if isinstance(value, (ast.Tuple, ast.List)):
        return all(is_plain(part, functions) for part in value.elts)
    return isinstance(value, ast.Constant) or (isinstance(value, ast.Name) and value.id in functions)


def bound_names(tree):
    """The names that a file defines at module level."""
    names = [node.name for node in tree.body if isinstance(node, (ast.FunctionDef, ast.ClassDef))]
    return names + [node.targets[0].id for node in tree.body if isinstance(node, ast.Assign)]


def bound_inside(tree):
    """The names of parameters, and of what functions assign."""
    functions = [node for node in ast.walk(tree) if isinstance(node, ast.FunctionDef)]
    found = [node.arg for node in ast.walk(tree) if isinstance(node, ast.arg)]
    for function in functions:
        stored = [node for node in ast.walk(function) if isinstance(node, ast.Name)]
        found = found + [node.id for node in stored if isinstance(node.ctx, ast.Store)]
    return found


def imported_files(tree):
    """The files of the package that a file imports from."""
    return {node.module.partition(".")[2] for node in tree.body if isinstance(node, ast.ImportFrom)}


INTERFACE = {
    "errors": """PageError PaperError StoreError LiveError TextError InvalidPaper NotUsable InvalidDeed InvalidEvent
        NothingToUndo Broken InvalidText InvalidRow""",
    "kinds": "GUARDS HARMS is_integer is_number is_page is_record is_deed is_rule",
    "logchecker": "lets_log",
    "logs": "life_in owner_in due_in pages_in put_in puts_in struck_in",
    "rulevalues": "Rule Without",
    "deedtexts": "deed_text record_text rule_text history_text",
    "deedreadings": "read_deed read_record read_rule read_deeds",
    "deedrows": "Deeds",
    "stores": "first_store store_after",
    "deedbars": "barred_by deeds_now after_deed",
    "historychecker": "is_history lets_history",
    "looks": "set_on held_on life_on owner_of",
    "stops": "left_by_stop harms_by_stop harms_now going_deeds",
    "storeclasses": "Store Careful",
    "storepictures": "picture",
    "stands": "FIRST_STAND is_stand stand_of stands_of",
    "follows": "follows",
    "closures": "all_stands harms_of is_harmless",
    "searches": "harm_history",
    "standchecker": "lets_stands",
    "harmpapers": "harm_paper",
    "harmchecker": "lets_harm",
    "likeness": "have_same_harms is_included have_same_histories parting_history",
    "standclasses": "Stands",
    "leastrules": "least_rules greatest_rules needed_guards",
    "rulepapers": "rules_paper",
    "rulechecker": "lets_rules",
    "stretches": "is_stretch stops_along harms_along",
    "strikes": "strikes_in least_strikes greatest_strikes strikes_paper",
    "strikechecker": "lets_strikes",
    "needless": "left_without needless_records",
    "safepoints": "safe_points farthest_point",
    "liveevents": "is_event",
    "lives": "Live",
    "liveslogs": "is_story replayed",
    "livetexts": "event_line story_lines",
    "livereadings": "read_event read_story",
    "desks": "Desk",
}

CLASSES = {
    ("rulevalues", "Rule"): "__init__ __contains__ __len__ __bool__ __iter__ __str__ __eq__ __le__ __or__ __and__ "
    "__add__ __sub__ guards_now of every none",
    ("rulevalues", "Without"): "__init__ left_now",
    ("deedrows", "Deeds"): "__init__ __getitem__ __contains__ __len__ __bool__ __iter__ __str__ __eq__ __le__ __add__ "
    "__call__ deeds_now pages_now only of read",
    ("storeclasses", "Store"): "__init__ __add__ __contains__ __getitem__ __len__ __bool__ __eq__ __le__ __str__ "
    "rule_now history_now log_now store_now deeds_now harms_now",
    ("storeclasses", "Careful"): "__init__ __add__",
    ("standclasses", "Stands"): "__init__ __contains__ __len__ __iter__ __getitem__ __call__ __eq__ __le__ rule_now "
    "harms_now",
    ("lives", "Live"): "__init__ __iadd__ __getitem__ __contains__ __len__ __eq__ rule_now history_now store_now "
    "log_now careful_now deeds_now harms_now left_now happen do_deed set_careful mark barred tried trial undo do_all "
    "counts set_on made_since tally table story",
    ("desks", "Desk"): "__init__ say counts",
}

if __name__ == "__main__":
    unittest.main()
