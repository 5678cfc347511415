"""The files of the package keep to the small part of the language that they may use."""

import ast
import builtins
import os
import re
import unittest

ROOT = os.path.dirname(os.path.dirname(os.path.abspath(__file__)))
PACKAGE = os.path.join(ROOT, "arrowcells")
LIBRARY = {"math": {"gcd", "lcm", "isqrt", "comb", "perm", "factorial"},
           "heapq": {"heappush", "heappop", "heapify", "heapreplace", "heappushpop"}}
BUILTINS = set("len range enumerate zip min max sum abs sorted reversed int str bool list tuple dict set isinstance"
               " ord repr any all divmod ValueError".split())
METHODS = set("append clear copy count endswith extend find get index insert isalnum isalpha isdigit islower isspace"
              " isupper items join keys ljust lower lstrip partition pop remove replace reverse rfind rjust"
              " rpartition rsplit rstrip setdefault split splitlines startswith strip update upper values zfill"
              " bit_length removeprefix removesuffix".split())
BARRED = set("register mro elements open input law version_info with_traceback add_note attrgetter breakpoint builtins"
             " compile copyright credits delattr dir eval exec exit gc getattr globals hasattr help id importlib"
             " license locals methodcaller os quit setattr super type vars sys".split())
BARRED_WORDS = set("type typing typing_extensions enum Enum IntEnum StrEnum Flag IntFlag Generic Protocol ABC ABCMeta"
                   " namedtuple NamedTuple TypedDict TYPE_CHECKING abstractmethod".split())
BARRED_ATTRIBUTES = set("items keys values pop update append clear extend insert remove reverse setdefault sort args"
                        " encode decode hex fromhex format union difference intersection".split())
DUNDERS = {"__init__", "__eq__", "__contains__", "__len__", "__bool__", "__enter__", "__exit__"}
# What they give is iterated at once, by a loop or by one of these, or a range is asked with `in`.
ITERATORS = {"zip", "enumerate", "reversed", "range"}
VIEWS = {"items", "keys", "values"}
ITERATED_BY = {"list", "tuple", "dict", "sorted", "sum", "any", "all", "enumerate", "zip", "min", "max"}
BARRED_NODES = (ast.Global, ast.Nonlocal, ast.AsyncFunctionDef, ast.Await, ast.Yield, ast.YieldFrom, ast.GeneratorExp,
                ast.Try, ast.Lambda, ast.Import, ast.Div, ast.Match, ast.NamedExpr, ast.AnnAssign,
                ast.Assert, ast.Delete, ast.MatMult)
METHODS_LISTED = {
    "Store": "at arrow is_gone", "Plan": "comes_before", "Lengths": "members counted",
    "Bench": "do run wish lift undo trial tried __len__", "Console": "say",
}
INTERFACE = {
    "errors": "ArrowError",
    "stores": "Store read_store",
    "ways": "way way_end tail_and_ring reached lost first_common",
    "shapes": "is_shape shapes letters_of knots_number lengths_number knot_words knot_at stretches_on_way",
    "plans": "Plan plan_of knots_of stretches_of store_of are_alike tidy read_plan",
    "lengths": "Lengths of_numbers",
    "sums": "union both without sums parts multiplied shifted lies_in",
    "sayings": "is_saying saying_tree saying_text shown_letters",
    "fits": "placing is_placing chain_cells keeps",
    "lots": "Lot lot_of every has_plan has_store",
    "lotsums": "either meet minus passing",
    "inside": "is_empty lies_inside is_same least_plan parting_plan shapes_in follows parting_store",
    "listed": "plans_number plans_of_size plan_at",
    "programs": "is_program is_test program_tree test_tree program_text program_letters deeds_of has_loop is_plain"
                " statements_number is_deed",
    "runs": "Run run done holds",
    "planruns": "PlanRun plan_run plan_done plan_holds",
    "images": "image failing",
    "ahead": "ahead weakest",
    "broken": "broken is_kept leaking",
    "differ": "leave_same differing",
    "farruns": "FarRun far_run turns",
    "promises": "promise_broken wide found_promise loop_text way_cells weight_of",
    "walkers": "stop_at meet meets_always missed_track doubling_steps track_of meeting_place",
    "takings": "part_with part_without laid_together footprint takings",
    "weavings": "weavings woven weaving_to touching",
    "lostcells": "arrows_into unasked lost_rings counted swept counted_run",
    "countings": "stores_number store_at place_of",
    "benches": "Bench",
    "consoles": "Console",
    "checker": "accepts",
    "certificates": "certify_keeps certify_possible certify_inside certify_run certify_alike certify_kept certify_same"
                    " certify_no_leak certify_promise certify_meet",
}


def sources():
    """The dict of the names and texts of the files of the package."""
    found = {}
    for name in sorted(os.listdir(PACKAGE)):
        if name != "__pycache__":
            with open(os.path.join(PACKAGE, name), encoding="utf-8") as file:
                found[name] = file.read()
    return found


def trees():
    return {name[:-3]: ast.parse(text) for name, text in sources().items()}


def functions_of(tree):
    return [node for node in ast.walk(tree) if isinstance(node, ast.FunctionDef)]


class FormTest(unittest.TestCase):
    def test_files_are_plain(self):
        for name, text in sources().items():
            self.assertRegex(name, r"\A([a-z_]+|__init__)\.py\Z")
            self.assertTrue(all(sign == "\n" or " " <= sign <= "~" for sign in text), name)
            lines = text.split("\n")
            self.assertLessEqual(len(lines), 399, name)
            self.assertLessEqual(max(len(line) for line in lines), 120, name)

    def test_functions_are_short(self):
        for name, tree in trees().items():
            for node in functions_of(tree):
                self.assertLessEqual(node.end_lineno - node.lineno + 1, 40, (name, node.name))
                self.assertEqual(node.decorator_list, [], (name, node.name))

    def test_module_level_is_plain(self):
        for name, tree in trees().items():
            bound = []
            for number, node in enumerate(tree.body):
                if isinstance(node, ast.Expr):
                    self.assertTrue(number == 0 and isinstance(node.value, ast.Constant), name)
                elif isinstance(node, ast.ImportFrom):
                    bound += [alias.asname or alias.name for alias in node.names]
                elif isinstance(node, ast.Assign):
                    self.assertEqual(len(node.targets), 1, name)
                    bound.append(node.targets[0].id)
                else:
                    self.assertIsInstance(node, (ast.FunctionDef, ast.ClassDef), name)
                    bound.append(node.name)
            self.assertEqual(len(bound), len(set(bound)), name)

    def test_imports_come_from_where_names_are_defined(self):
        defined = {name: {node.name for node in tree.body if isinstance(node, (ast.FunctionDef, ast.ClassDef))}
                   | {node.targets[0].id for node in tree.body if isinstance(node, ast.Assign)}
                   for name, tree in trees().items()}
        for name, tree in trees().items():
            for node in tree.body:
                if isinstance(node, ast.ImportFrom):
                    names = {alias.name for alias in node.names}
                    self.assertEqual(node.level, 0)
                    if node.module in LIBRARY:
                        self.assertLessEqual(names, LIBRARY[node.module])
                    else:
                        package, file = node.module.split(".")
                        self.assertEqual(package, "arrowcells")
                        self.assertLessEqual(names, defined[file], (name, file))
                    used = {part.id for part in ast.walk(tree) if isinstance(part, ast.Name)}
                    self.assertLessEqual(names, used, (name, "imported, but not used"))

    def test_no_two_files_import_from_each_other(self):
        needs = {name: {node.module.split(".")[1] for node in tree.body
                        if isinstance(node, ast.ImportFrom) and node.module not in LIBRARY}
                 for name, tree in trees().items()}
        while needs:
            free = [name for name in needs if not needs[name] & set(needs)]
            self.assertTrue(free, needs)
            for name in free:
                del needs[name]

    def test_interface_is_defined_in_its_files(self):
        all_trees = trees()
        for name, words in INTERFACE.items():
            defined = {node.name for node in all_trees[name].body if isinstance(node, (ast.FunctionDef, ast.ClassDef))}
            self.assertLessEqual(set(words.split()), defined, name)

    def test_listed_methods_are_defined_in_their_classes(self):
        holders = {node.name: node for tree in trees().values() for node in tree.body if isinstance(node, ast.ClassDef)}
        for name, words in METHODS_LISTED.items():
            self.assertLessEqual(set(words.split()), {node.name for node in functions_of(holders[name])}, name)

    def test_classes_are_plain(self):
        for name, tree in trees().items():
            for node in ast.walk(tree):
                if isinstance(node, ast.ClassDef):
                    self.assertTrue(node.name[0].isalpha() and not node.decorator_list, (name, node.name))
                    self.assertTrue(all(isinstance(part, ast.FunctionDef) for part in node.body[1:]), (name, node.name))

    def test_with_stands_over_trials_alone(self):
        for name, tree in trees().items():
            for node in ast.walk(tree):
                if isinstance(node, ast.With):
                    self.assertEqual([ast.unparse(item.context_expr) for item in node.items], ["self.trial()"], name)
                if isinstance(node, ast.FunctionDef) and node.name == "__exit__":
                    for part in node.body[0].body if isinstance(node.body[0], ast.If) else node.body:
                        self.assertIsInstance(part, (ast.Assign, ast.If), name)
                    self.assertEqual([ast.unparse(part.test) for part in ast.walk(node) if isinstance(part, ast.If)],
                                     ["kind is not None"])
                    self.assertFalse([part for part in ast.walk(node) if isinstance(part, (ast.Call, ast.Subscript))])

    def test_iterators_are_iterated_at_once(self):
        for name, tree in trees().items():
            told = set()
            for node in ast.walk(tree):
                if isinstance(node, (ast.For, ast.comprehension)):
                    told.add(node.iter)
                if isinstance(node, ast.Call) and isinstance(node.func, ast.Name) and node.func.id in ITERATED_BY:
                    told.update(node.args)
                if isinstance(node, ast.Call) and isinstance(node.func, ast.Name) and node.func.id == "reversed":
                    told.update(part for part in node.args if ast.unparse(part).startswith("range("))
                if isinstance(node, ast.Compare) and isinstance(node.ops[0], (ast.In, ast.NotIn)):
                    told.update(part for part in node.comparators if ast.unparse(part).startswith("range("))
                if isinstance(node, ast.Assign) and isinstance(node.targets[0], ast.Name):
                    told.update(part for part in [node.value] if ast.unparse(part).startswith("range("))
            for node in ast.walk(tree):
                if isinstance(node, ast.Call):
                    word = node.func.id if isinstance(node.func, ast.Name) else getattr(node.func, "attr", "")
                    if word in (ITERATORS if isinstance(node.func, ast.Name) else VIEWS):
                        self.assertIn(node, told, (name, node.lineno))

    def test_stars_stand_over_plain_names(self):
        for name, tree in trees().items():
            for node in ast.walk(tree):
                if isinstance(node, ast.Call):
                    for part in node.args:
                        if isinstance(part, ast.Starred):
                            self.assertRegex(ast.unparse(part), r"\A\*\w+(\.\w+)?\Z", (name, node.lineno))

    def test_exponents_are_told(self):
        for name, tree in trees().items():
            for node in ast.walk(tree):
                if isinstance(node, ast.BinOp) and isinstance(node.op, ast.Pow):
                    self.assertTrue(isinstance(node.right, ast.Constant) and 0 <= node.right.value <= 64, name)

    def test_only_plain_statements_and_expressions(self):
        for name, tree in trees().items():
            for node in ast.walk(tree):
                self.assertNotIsInstance(node, BARRED_NODES, (name, getattr(node, "lineno", 0)))
                if isinstance(node, ast.Constant):
                    self.assertNotIsInstance(node.value, (float, complex, bytes), name)
                    if isinstance(node.value, str):
                        self.assertNotIn("%", node.value, name)
                if isinstance(node, (ast.Set, ast.SetComp)):
                    self.fail((name, node.lineno))
                if isinstance(node, ast.Call) and isinstance(node.func, ast.Name) and node.func.id in ("min", "max"):
                    self.assertFalse({word.arg for word in node.keywords} - {"default"})

    def test_sets_are_only_measured(self):
        for name, text in sources().items():
            self.assertEqual(len(re.findall(r"\bset\(", text)), len(re.findall(r"len\(set\(", text)), name)

    def test_names_are_free(self):
        for name, tree in trees().items():
            classes = {node.name for node in ast.walk(tree) if isinstance(node, ast.ClassDef)}
            imported = {alias.name for node in tree.body if isinstance(node, ast.ImportFrom) for alias in node.names}
            for node in ast.walk(tree):
                if isinstance(node, ast.FunctionDef):
                    self.check_bound(node.name, name, set(), True)
                    for parameter in node.args.args:
                        self.check_bound(parameter.arg, name, classes | imported, False)
                if isinstance(node, ast.Name) and isinstance(node.ctx, ast.Store):
                    self.check_bound(node.id, name, classes | imported, False)
                if isinstance(node, ast.Name) and hasattr(builtins, node.id):
                    self.assertIn(node.id, BUILTINS, name)

    def check_bound(self, word, file, taken, is_function):
        self.assertNotIn(word, taken, file)
        self.assertNotIn(word, BARRED, file)
        if not (is_function and word in DUNDERS):
            self.assertFalse(hasattr(builtins, word), (file, word))
            self.assertFalse(word.startswith("__"), (file, word))

    def test_attributes_are_assigned_and_methods_known(self):
        methods, attributes = {}, {}
        for tree in trees().values():
            for holder in [node for node in ast.walk(tree) if isinstance(node, ast.ClassDef)]:
                for node in functions_of(holder):
                    methods[node.name] = holder.name
                    for part in ast.walk(node):
                        if isinstance(part, ast.Attribute) and isinstance(part.ctx, ast.Store):
                            attributes[part.attr] = holder.name
        self.assertEqual(set(methods) & set(attributes), set())
        self.assertEqual(set(attributes) & BARRED_ATTRIBUTES, set())
        self.assertEqual(set(methods) & (METHODS | BARRED_ATTRIBUTES), set())
        for name, tree in trees().items():
            for node in ast.walk(tree):
                if isinstance(node, ast.Attribute):
                    self.assertIn(node.attr, set(methods) | set(attributes) | METHODS, (name, node.lineno))

    def test_barred_words_stand_nowhere(self):
        for name, text in sources().items():
            code = re.sub(r'""".*?"""|#[^\n]*', "", text, flags=re.S)
            self.assertEqual(set(re.findall(r"\w+", code)) & BARRED_WORDS, set(), name)


if __name__ == "__main__":
    unittest.main()
