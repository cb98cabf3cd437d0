"""The rules of the language that a look at the files can tell, and where the interface is defined."""

import ast
import unittest
from pathlib import Path

PACKAGE = Path(__file__).resolve().parent.parent / "listenfield"
FILES = sorted(PACKAGE.glob("**/*.py"))
BUILTINS = {
    "len", "range", "enumerate", "zip", "min", "max", "sum", "abs", "sorted", "reversed", "int", "str", "bool", "list",
    "tuple", "dict", "set", "isinstance", "ord", "repr", "any", "all", "divmod", "pow", "map", "super", "ValueError",
    "KeyError", "IndexError", "LookupError", "TypeError", "Exception"}
BARRED = {
    "type", "typing", "typing_extensions", "enum", "Enum", "IntEnum", "StrEnum", "Flag", "IntFlag", "Generic",
    "Protocol", "ABC", "ABCMeta", "namedtuple", "NamedTuple", "TypedDict", "TYPE_CHECKING", "abstractmethod",
    "register", "mro", "elements", "open", "input", "law", "version_info", "with_traceback", "add_note"}
LIBRARY = {"math": {"gcd"}}
INTERFACE = {
    "errors": ["FieldError", "Wrong", "NoLog", "TooMany", "NoNumber", "NoAnswer", "Narrow", "Loose", "Unfit", "NoText",
               "NoRow"],
    "kinds": ["is_whole", "is_place", "is_turn", "is_size", "is_shift", "is_sort", "is_plan", "is_mark", "are_marks"],
    "webs": ["Web", "slots_hold", "road_holds", "cut_holds"],
    "terms": ["Terms"],
    "weather": ["Weather", "fits"],
    "clocks": ["Clock", "bound_of", "chain_holds"],
    "stores": ["Store", "gap", "ledger_holds"],
    "items": ["is_item", "is_laminar", "lies_within", "item_of", "merged", "greatest"],
    "posts": ["Post"],
    "questions": ["is_question", "asks", "windows_of", "closing", "closes", "over", "Asking"],
    "answers": ["mean_of", "answer_of", "answer_holds"],
    "levels": ["Levels"],
    "message": ["Message"],
    "places": ["Place"],
    "tracks": ["way_to", "way_holds", "reason_of"],
    "watch": ["bound_held"],
    "net": ["Net"],
    "logs": ["Log", "show_deed", "read_deed", "show_terms", "read_terms", "come_up"],
    "desk": ["Desk"],
    "end": ["answered"],
}
METHODS = {
    "Web": ["many", "pairs", "neighbours", "clash", "slots", "distances", "cut"],
    "Terms": ["place", "many", "slots_many", "width"],
    "Clock": ["error", "bound", "chain", "in_time", "turn_more", "copied", "hears"],
    "Store": ["copied", "left", "ledger", "wakes", "speaks"],
    "Post": ["held", "out", "made", "taken", "put", "make_up", "hears_taken", "handed", "let_go", "copied"],
    "Asking": ["version", "listed", "ask", "end", "change", "copied"],
    "Levels": ["hears", "at_slot", "level", "head", "copied"],
    "Place": ["listed", "asking", "post", "turn_more", "wakes", "sense", "speaks", "hears", "took", "lets_go",
              "copied"],
    "Net": ["step", "ask", "change", "end", "turns", "living", "speeches", "hearings", "meetings", "sensed", "answers",
            "cut", "place", "items_at", "rooms", "holders", "takings", "reasons", "held", "copied"],
    "Log": ["net", "do", "text"],
    "Desk": ["say"],
}


def tree_of(path):
    """The file as a tree."""
    return ast.parse(path.read_text(encoding="utf-8"))


def names_in(tree):
    """Each name in the tree, as it stands for a variable, a definition, an argument or an attribute."""
    fields = {ast.Name: "id", ast.FunctionDef: "name", ast.ClassDef: "name", ast.arg: "arg", ast.Attribute: "attr",
              ast.keyword: "arg", ast.alias: "name"}
    return {getattr(node, fields[type(node)]) for node in ast.walk(tree) if type(node) in fields}


class Language(unittest.TestCase):

    def test_the_folder_holds_sources_alone(self):
        there = [path for path in PACKAGE.glob("**/*") if path.is_file() and "__pycache__" not in path.parts]
        self.assertEqual(sorted(there), FILES)
        self.assertIn(PACKAGE / "__init__.py", FILES)

    def test_sizes(self):
        for path in FILES:
            lines = path.read_text(encoding="utf-8").split("\n")
            self.assertLessEqual(len(lines), 399, path)
            self.assertLessEqual(max(map(len, lines)), 120, path)
            for node in ast.walk(tree_of(path)):
                if isinstance(node, ast.FunctionDef):
                    self.assertLessEqual(node.end_lineno - node.lineno + 1, 40, (path, node.name))

    def test_characters(self):
        for path in FILES:
            self.assertTrue(all(sign == 10 or 32 <= sign <= 126 for sign in path.read_bytes()), path)

    def test_imports_are_from_the_package(self):
        for path in FILES:
            for node in ast.walk(tree_of(path)):
                self.assertNotIsInstance(node, ast.Import, path)
                if isinstance(node, ast.ImportFrom) and node.module not in LIBRARY:
                    self.assertEqual(node.module.split(".")[0], "listenfield", path)
                    self.assertEqual(node.level, 0, path)

    def test_names_of_the_library_are_only_called(self):
        for path in FILES:
            tree = tree_of(path)
            taken = [name for node in ast.walk(tree) if isinstance(node, ast.ImportFrom) and node.module in LIBRARY
                     for name in node.names]
            for name in taken:
                self.assertIsNone(name.asname, path)
            called = [node.func for node in ast.walk(tree) if isinstance(node, ast.Call) and not node.keywords]
            for node in ast.walk(tree):
                if isinstance(node, ast.Name) and node.id in [name.name for name in taken]:
                    self.assertIn(node, called, (path, node.id))
            for node in ast.walk(tree):
                if isinstance(node, ast.ImportFrom) and node.module in LIBRARY:
                    self.assertLessEqual({name.name for name in node.names}, LIBRARY[node.module], path)

    def test_no_two_files_import_from_each_other(self):
        near = {path.stem: {node.module.split(".")[1] for node in ast.walk(tree_of(path))
                            if isinstance(node, ast.ImportFrom) and node.module.startswith("listenfield.")}
                for path in FILES}
        ahead = []
        while len(ahead) < len(near):
            free = [name for name in near if name not in ahead and near[name] <= set(ahead)]
            self.assertTrue(free, sorted(set(near) - set(ahead)))
            ahead += free

    def test_no_local_name_is_that_of_a_class_or_an_import(self):
        for path in FILES:
            tree = tree_of(path)
            barred = {name.name for node in ast.walk(tree) if isinstance(node, ast.ImportFrom) for name in node.names}
            barred |= {node.name for node in ast.walk(tree) if isinstance(node, ast.ClassDef)}
            stored = {node.id for node in ast.walk(tree) if isinstance(node, ast.Name)
                      and not isinstance(node.ctx, ast.Load)} | {
                node.arg for node in ast.walk(tree) if isinstance(node, ast.arg)}
            self.assertFalse(stored & barred, path)

    def test_no_name_is_a_method_and_an_attribute_of_one_class(self):
        for path in FILES:
            for node in ast.walk(tree_of(path)):
                if isinstance(node, ast.ClassDef):
                    methods = {part.name for part in node.body if isinstance(part, ast.FunctionDef)}
                    kept = {part.attr for part in ast.walk(node) if isinstance(part, ast.Attribute)
                            and isinstance(part.ctx, ast.Store)}
                    self.assertFalse(methods & kept, (path, node.name))

    def test_names(self):
        import builtins
        for path in FILES:
            tree = tree_of(path)
            self.assertFalse(names_in(tree) & BARRED, path)
            read = {node.id for node in ast.walk(tree) if isinstance(node, ast.Name)}
            self.assertFalse((read & set(dir(builtins))) - BUILTINS, path)

    def test_no_number_with_a_point_and_no_share(self):
        for path in FILES:
            for node in ast.walk(tree_of(path)):
                self.assertNotIsInstance(node, ast.Div, path)
                self.assertNotIsInstance(getattr(node, "value", None), float, path)

    def test_all_has_a_docstring(self):
        for path in FILES:
            for node in ast.walk(tree_of(path)):
                if isinstance(node, (ast.Module, ast.ClassDef, ast.FunctionDef)):
                    self.assertTrue(ast.get_docstring(node), (path, getattr(node, "name", "")))


class Interface(unittest.TestCase):

    def test_each_is_defined_in_its_file(self):
        for module, names in INTERFACE.items():
            defined = {node.name for node in tree_of(PACKAGE / f"{module}.py").body if hasattr(node, "name")}
            self.assertLessEqual(set(names), defined, module)

    def test_each_method_is_defined_in_its_class(self):
        found = {node.name: {part.name for part in node.body if isinstance(part, ast.FunctionDef)}
                 for path in FILES for node in tree_of(path).body if isinstance(node, ast.ClassDef)}
        for name, methods in METHODS.items():
            self.assertLessEqual(set(methods), found[name], name)


if __name__ == "__main__":
    unittest.main()
