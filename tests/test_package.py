"""What holds for the package as a whole: point 1, where the interface stands, and the size of the code."""

import ast
import builtins
import importlib
import pathlib
import unittest

FOLDER = pathlib.Path(__file__).resolve().parent.parent / "stablepapers"
FILES = sorted(FOLDER.rglob("*.py"))
LIBRARY = {
    "heapq": {"heappush", "heappop", "heapify", "heapreplace", "heappushpop"},
    "math": {"gcd", "lcm", "isqrt", "comb", "perm", "factorial"},
    "itertools": {"product", "combinations", "permutations", "chain", "accumulate", "pairwise", "islice",
                  "zip_longest"},
    "collections": {"defaultdict"},
}
BARRED = {"open", "input", "print", "eval", "exec", "compile", "globals", "hash", "id"}
# The functions and classes that the document lists for each file, with the names of their arguments; for a class these
# are the names of the arguments of its methods, behind `self`.
INTERFACE = {
    "errors": {"StableError": {}, "TextError": {}, "LimitError": {}},
    "tokens": {"tokens": ["text"]},
    "trees": {"format_term": ["term"], "format_atom": ["atom"], "format_condition": ["condition"],
              "format_statement": ["statement"], "format_text": ["statements"]},
    "parsing": {"parse": ["text"]},
    "terms": {"rank": ["constant"], "value": ["term", "names"], "holds": ["sign", "left", "right"],
              "atom_instance": ["atom", "names", "universe"],
              "conditions_instance": ["conditions", "names", "universe"],
              "substitutions": ["names", "wanted", "universe"]},
    "universe": {"universe": ["statements"]},
    "plain": {"global_variables": ["statement"], "local_variables": ["part", "names"], "plain_rules": ["statements"]},
    "programs": {"ground": ["statements"], "with_denials": ["program", "bodies"]},
    "stable": {"condition_holds": ["condition", "candidate"], "body_holds": ["body", "candidate"],
               "supported": ["body", "founded", "candidate"], "derived": ["program", "candidate"],
               "is_stable": ["program", "candidate"], "cost_of": ["program", "candidate"]},
    "possible": {"possible_atoms": ["rules"], "matching": ["statements"]},
    "values": {"surely_counts": ["row", "values"], "may_count": ["row", "values"],
               "surely_holds": ["condition", "values"], "surely_fails": ["condition", "values"],
               "body_surely_holds": ["body", "values"], "body_surely_fails": ["body", "values"],
               "cut_off": ["body", "group", "values"]},
    "founded": {"model_paper": ["program", "candidate"], "paper_atoms": ["paper"], "model_right": ["program", "paper"]},
    "refuted": {"node_right": ["rules", "node", "values"], "none_right": ["program", "node"]},
    "unfounded": {"unfounded_atoms": ["rules", "values"]},
    "search": {"search": ["program"]},
    "solving": {"Solver": {"__init__": ["statements", "program"], "solve": ["bodies"]}},
    "every": {"exclusion": ["program", "candidate"], "all_candidates": ["solver", "limit"],
              "list_right": ["program", "paper"]},
    "best": {"best_candidate": ["solver"], "best_right": ["program", "paper"],
             "certain_right": ["program", "atom", "paper"], "impossible_right": ["program", "atom", "paper"]},
    "answers": {"answer": ["text", "query"], "check_answer": ["text", "query", "given"]},
}


def tree_of(path):
    return ast.parse(path.read_text(encoding="ascii"))


def functions_of(tree):
    return [node for node in ast.walk(tree) if isinstance(node, (ast.FunctionDef, ast.Lambda))]


def arguments_of(tree):
    """Return the names of the arguments of the functions that a file or a class defines itself."""
    return {node.name: [one.arg for one in node.args.args] for node in tree.body if isinstance(node, ast.FunctionDef)}


class Package(unittest.TestCase):
    def test_imports_come_from_the_package_or_the_allowed_library(self):
        # So there is no clock, no random source and no file access.
        for path in FILES:
            for node in ast.walk(tree_of(path)):
                self.assertNotIsInstance(node, ast.Import, path.name)
                if isinstance(node, ast.ImportFrom):
                    self.assertEqual(node.level, 0, path.name)
                    if node.module.split(".")[0] != "stablepapers":
                        self.assertLessEqual({name.name for name in node.names}, LIBRARY.get(node.module, set()))

    def test_no_builtin_that_reads_or_runs_something_outside(self):
        for path in FILES:
            names = {node.id for node in ast.walk(tree_of(path)) if isinstance(node, ast.Name)}
            self.assertEqual(names & BARRED, set(), path.name)

    def test_the_interface_is_defined_in_its_files(self):
        for name, expected in INTERFACE.items():
            tree = tree_of(FOLDER / f"{name}.py")
            defined = {node.name: node for node in tree.body if isinstance(node, (ast.FunctionDef, ast.ClassDef))}
            module = importlib.import_module(f"stablepapers.{name}")
            for wanted, arguments in expected.items():
                self.assertTrue(callable(getattr(module, wanted)))
                if isinstance(arguments, dict):
                    self.assertIsInstance(defined[wanted], ast.ClassDef)
                    methods = arguments_of(defined[wanted])
                    for method, names in arguments.items():
                        self.assertEqual(methods.get(method), ["self"] + names, wanted)
                else:
                    self.assertEqual(arguments_of(tree).get(wanted), arguments, wanted)

    def test_no_name_inside_a_function_hides_an_import_or_a_builtin(self):
        for path in FILES:
            tree = tree_of(path)
            taken = set(dir(builtins))
            for node in tree.body:
                if isinstance(node, ast.ImportFrom):
                    taken.update(alias.name for alias in node.names)
                elif isinstance(node, ast.ClassDef):
                    taken.add(node.name)
            inside = {node.arg for node in ast.walk(tree) if isinstance(node, ast.arg)}
            inside.update(
                node.id for node in ast.walk(tree) if isinstance(node, ast.Name) and isinstance(node.ctx, ast.Store)
            )
            self.assertEqual(inside & taken, set(), path.name)

    def test_sizes_and_characters(self):
        for path in FILES:
            text = path.read_text(encoding="ascii")
            lines = text.split("\n")
            self.assertLessEqual(len(lines), 400, path.name)
            self.assertLessEqual(max(len(line) for line in lines), 120, path.name)
            self.assertTrue(all(char == "\n" or " " <= char <= "~" for char in text), path.name)
            for node in functions_of(ast.parse(text)):
                self.assertLessEqual(node.end_lineno - node.lineno + 1, 40, path.name)

    def test_the_folder_contains_nothing_else(self):
        others = [
            path.name for path in FOLDER.rglob("*")
            if path.is_file() and path.suffix != ".py" and "__pycache__" not in path.parts
        ]
        self.assertEqual(others, [])


if __name__ == "__main__":
    unittest.main()
